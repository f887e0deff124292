import PyProof.Rows.All
import Wide.All
import OpenK.AllK
import Wide.FinOn
import Lean
import PyProof.EqAt
import PyProof.EqKinds
import PyProof.TupleCall
import PyProof.NeKinds
import KE.KRevIter
import PyProof.Rows.SumAny
import PySem.Challenge.RW_catchhall_k19_lines_in_order_and_by_part
noncomputable section
set_option Elab.async false
set_option linter.all false
set_option maxRecDepth 100000
namespace L2
open PySem PySem.Spec PyProof.Rows
abbrev Key:=Sum Int Str
def zKS:Key->Value->Bool
 | .inl k,v=>Value.isInt k v
 | .inr x,v=>Value.isStrOf x v
def zNz (w:World):Key->Int
 | .inl k=>hashInt k
 | .inr x=>hashStr w x
theorem cS:∀ {k:Key} {v:Value},zKS k v=true->(∃ i t,k=Sum.inl i/\v=Value.int i t)∨(∃ x t,k=Sum.inr x/\v=Value.str x t)
 | .inl i,v,h=>by
  obtain ⟨t,e⟩:=Value.isInt_shape (k:=i) (v:=v) h
  exact .inl ⟨i,t,rfl,e⟩
 | .inr x,v,h=>by
  obtain ⟨t,e⟩:=Value.isStrOf_shape (x:=x) (v:=v) h
  exact .inr ⟨x,t,rfl,e⟩
theorem zLf (a b:Int):decide ((Sum.inl a:Key)=Sum.inl b)=(a==b):=by
 by_cases e:a=b
 ·subst e;simp
 ·have h:¬ (Sum.inl a:Key)=Sum.inl b:=fun q=>e (Sum.inl.inj q)
  rw [decide_eq_false h]
  exact (beq_eq_false_iff_ne.mpr e).symm
theorem zLe (a b:Str):decide ((Sum.inr a:Key)=Sum.inr b)=decide (a=b):=by
 by_cases e:a=b
 ·subst e;simp
 ·have h:¬ (Sum.inr a:Key)=Sum.inr b:=fun q=>e (Sum.inr.inj q)
  rw [decide_eq_false h,decide_eq_false e]
theorem zKI (a:Int) (b:Str):decide ((Sum.inl a:Key)=Sum.inr b)=false:=decide_eq_false (fun q=>nomatch q)
theorem zJM (a:Str) (b:Int):decide ((Sum.inr a:Key)=Sum.inl b)=false:=decide_eq_false (fun q=>nomatch q)
def zEj (prog:Program) (w:World):PySem.KeyKind prog w Key where
 is:=zKS
 hash:=zNz w
 inj:=fun v a b ha hb=>by
  rcases cS ha with ⟨i,t,rfl,rfl⟩ | ⟨x,t,rfl,rfl⟩
  ·rcases cS hb with ⟨j,u,rfl,e⟩ | ⟨y,u,rfl,e⟩
   ·injection e with e1 _;rw [e1]
   ·exact nomatch e
  ·rcases cS hb with ⟨j,u,rfl,e⟩ | ⟨y,u,rfl,e⟩
   ·exact nomatch e
   ·injection e with e1 _;rw [e1]
 byValue:=fun k v h=>by
  rcases cS h with ⟨i,t,rfl,rfl⟩ | ⟨x,t,rfl,rfl⟩<;>rfl
 pyHash:=fun hv h=>by
  rcases cS hv with ⟨i,t,rfl,rfl⟩ | ⟨x,t,rfl,rfl⟩
  ·exact wpAny_pyHash_int h
  ·exact wpAny_pyHash_str h
 eqBool:=fun hu hv h=>by
  rcases cS hu with ⟨i,t,rfl,rfl⟩ | ⟨x,t,rfl,rfl⟩
  ·rcases cS hv with ⟨j,u,rfl,rfl⟩ | ⟨y,u,rfl,rfl⟩
   ·rw [zLf] at h;exact wpAny_eqBool_int h
   ·rw [zKI] at h;exact SeqAt.EqAt.int_str i t y u _ _ _ _ h
  ·rcases cS hv with ⟨j,u,rfl,rfl⟩ | ⟨y,u,rfl,rfl⟩
   ·rw [zJM] at h;exact SeqAt.EqAt.str_int x t j u _ _ _ _ h
   ·rw [zLe] at h;exact wpAny_eqBool_str h
 «strs» := fun k x t v h=>by
  rcases cS h with ⟨i,u,rfl,e⟩ | ⟨y,u,rfl,e⟩
  ·exact nomatch e
  ·injection e with e1 _
   subst e1
   cases v<;>rfl
end L2
namespace L2
open PySem PySem.Spec PyProof.Rows
inductive V where
 | non | bl (b:Bool) | int (i:Int) | str (x:Str) | byt (b:Array UInt8) | flt (b:UInt64) | ref (a:Addr) | ty (n:String)
 deriving DecidableEq
def cQ:V->Value->Prop
 | .non,u=>u=Value.none
 | .bl b,u=>u=Value.bool b
 | .int i,u=>∃ t,u=Value.int i t
 | .str x,u=>∃ t,u=Value.str x t
 | .byt b,u=>∃ t,u=Value.bytes b t
 | .flt b,u=>∃ t,u=Value.float b t
 | .ref a,u=>u=Value.ref a
 | .ty n,u=>u=Value.type n
abbrev cM:List V->List Value->Prop:=Paired cQ
theorem cM.length {xs:List V} {us:List Value} (r:cM xs us):xs.length=us.length:=Paired.length r
theorem cM.get:∀ {xs:List V} {us:List Value} {i:Nat} {x:V},cM xs us->xs[i]?=some x->∃ u,us[i]?=some u/\cQ x u
 | _,_,_,_,.nil,e=>by simp at e
 | _,_,0,_,.cons r _,e=>by simp at e;subst e;exact ⟨_,rfl,r⟩
 | _,_,i+1,x,.cons _ t,e=>by
  obtain ⟨u,h1,h2⟩:=cM.get (i:=i) (x:=x) t (by simpa using e)
  exact ⟨u,by simpa using h1,h2⟩
theorem cM.set {x:V} {u:Value} (r:cQ x u):∀ {xs:List V} {us:List Value} (i:Nat),cM xs us->cM (xs.set i x) (us.set i u)
 | _,_,_,.nil=>.nil
 | _,_,0,.cons _ t=>.cons r t
 | _,_,i+1,.cons q t=>.cons q (cM.set r i t)
theorem cM.append:∀ {xs ys:List V} {us ws:List Value},cM xs us->cM ys ws->cM (xs++ys) (us++ws)
 | _,_,_,_,.nil,s=>s
 | _,_,_,_,.cons r t,s=>.cons r (cM.append t s)
theorem cM.take:∀ {xs:List V} {us:List Value} (n:Nat),cM xs us->cM (xs.take n) (us.take n)
 | _,_,0,_=>.nil
 | _,_,_+1,.nil=>.nil
 | _,_,n+1,.cons r t=>.cons r (cM.take n t)
theorem cM.drop:∀ {xs:List V} {us:List Value} (n:Nat),cM xs us->cM (xs.drop n) (us.drop n)
 | _,_,0,r=>r
 | _,_,_+1,.nil=>.nil
 | _,_,n+1,.cons _ t=>cM.drop n t
def zMH:Option V->Option Value->Prop
 | some v,some u=>cQ v u
 | none,none=>True
 | _,_=>False
def KV {κ:Type}:List (κ×V)->List (κ×Value)->Prop:=Paired fun (p:κ×V) (q:κ×Value)=>p.1=q.1/\cQ p.2 q.2
def kV:Key->V
 | .inl i=>.int i
 | .inr x=>.str x
inductive HO where
 | lst (xs:List V)
 | tup (xs:List V)
 | dK (kvs:List (Key×V)) | dT (kvs:List (List Key×V))
 | set (S:Int->Bool) (n:Nat)
 | ins (C dx:Addr) (fs:List (Str×V))
 | own (x:Addr)
 | xd (fs:List (Str×V))
 | met (f x:Addr)
 | rng (lo hi:Int)
 | frz (o:Obj) (u:HO)
 | tbl (ps:Array Value)
 | ext (φ:Heap->Prop)
abbrev Hp:=Addr->Option HO
def upd (H:Hp) (a:Addr) (o:HO):Hp:=fun b=>if b=a then some o else H b
theorem aW {H:Hp} {a:Addr} {o:HO}:upd H a o a=some o:=by unfold upd;rw [if_pos rfl]
theorem bA {H:Hp} {a b:Addr} {o:HO} (h:b≠a):upd H a o b=H b:=by unfold upd;rw [if_neg h]
theorem zLR {H:Hp} {a b:Addr} {o u:HO} (h:H a=some o) (h':H b=some u) (d:o≠u):a≠b:=by
 intro e;subst e;rw [h] at h';exact d (Option.some.inj h')
theorem aY {H:Hp} {a b:Addr} {o:HO} (h:H a=some o) (h':H b=none):a≠b:=by
 intro e;subst e;rw [h] at h';cases h'
section
variable (P:Program) (w:World)
def iP (H:Hp) (h:Heap) (a:Addr):HO->Prop
 | .lst xs=>xs.length<=sizeLine/\∃ (its:List Value) (n:Nat),cM xs its/\h.get? a=some { cls:=.type "list", data:=.seq its.toArray n }
 | .tup xs=>xs.length<=sizeLine/\∃ its:List Value,cM xs its/\IsTup h a its.toArray
 | .dK kvs=>kvs.length<=sizeLine/\(a==sysModules)=false/\∃ vs,KV kvs vs/\h.DictOf (zEj P w) a vs
 | .dT kvs=>kvs.length<=sizeLine/\(a==sysModules)=false/\∃ xs:List (List Key×Addr×Value),
   Paired (fun (p:List Key×V) (q:List Key×Addr×Value)=>p.1=q.1/\H q.2.1=some (.tup (p.1.map kV))/\cQ p.2 q.2.2) kvs xs/\
   ∃ o es ep,h.get? a=some o/\o.ExactDict/\o.data=.dict es ep/\es.toList=xs.map (entryOfKey (tupleKind (zEj P w)))/\(xs.map (·.1)).Nodup
 | .set S n=>h.SetOf (intKind P w) a S n
 | .ins C dx fs=>H dx=some (.own a)/\fs.length<=1000/\dx≠a/\h.get? a=some (PySem.W.instObj C dx)/\
   ∃ mA,h.Ns1 dx mA/\(∀ f,zMH (fs.lookup f) (mA f))/\PySem.Within mA (fs.map (·.1))
 | .own _=>∃ o,h.get? a=some o
 | .xd fs=>∃ mA,h.Ns1 a mA/\∀ f,zMH (fs.lookup f) (mA f)
 | .rng lo hi=>∃ t u v,h.get? a=some { cls:=.type "range", data:=.fields #[.int lo t,.int hi u,.int 1 v] }
 | .frz o u=>h.get? a=some o/\iP H h a u
 | .tbl ps=>h.get? a=some { cls:=.none,data:=.fields ps }
 | .met f x=>h.get? a=some (PySem.W.methodObj (.ref f) (.ref x))
 | .ext φ=>φ h/\(∃ o,h.get? a=some o)/\∀ h1 h2:Heap,φ h1->(∀ o,h1.get? a=some o->h2.get? a=some o)->φ h2
def HOk (H:Hp) (h:Heap):Prop:=∀ a o,H a=some o->iP P w H h a o
end
section
variable {P:Program} {w:World} {H H':Hp} {h h':Heap} {a:Addr} {o:HO}
theorem iP.lt (x:iP P w H h a o):a < h.objs.size:=by
 cases o with
 | lst xs=>obtain ⟨_,_,_,_,e⟩:=x;exact Heap.lt_size e
 | tup xs=>obtain ⟨_,_,_,p⟩:=x;exact p.lt
 | dK kvs=>obtain ⟨_,_,_,_,o,_,_,e,_⟩:=x;exact Heap.lt_size e
 | dT kvs=>obtain ⟨_,_,_,_,o,_,_,e,_⟩:=x;exact Heap.lt_size e
 | set S n=>obtain ⟨o,_,_,_,e,_⟩:=x;exact Heap.lt_size e
 | ins C dx fs=>obtain ⟨_,_,_,e,_⟩:=x;exact Heap.lt_size e
 | own y=>obtain ⟨_,e⟩:=x;exact Heap.lt_size e
 | xd fs=>obtain ⟨_,⟨_,_,_,e,_⟩,_⟩:=x;exact Heap.lt_size e
 | rng lo hi=>obtain ⟨_,_,_,e⟩:=x;exact Heap.lt_size e
 | frz ob u=>obtain ⟨e,_⟩:=x;exact Heap.lt_size e
 | tbl ps=>exact Heap.lt_size (show h.get? a=some _ from x)
 | met f y=>exact Heap.lt_size (show h.get? a=some _ from x)
 | ext φ=>obtain ⟨_,⟨_,e⟩,_⟩:=x;exact Heap.lt_size e
theorem Paired.mapP {α β:Type} {F G:α->β->Prop}:∀ {l₁:List α} {l₂:List β},Paired F l₁ l₂->(∀ a b,F a b->G a b)->Paired G l₁ l₂
 | _,_,.nil,_=>.nil
 | _,_,.cons r t,f=>.cons (f _ _ r) (Paired.mapP t f)
theorem iP.stay (x:iP P w H h a o) (k:∀ b u,(b=a∨H b=some (.own a))->h.get? b=some u->h'.get? b=some u)
  (ho:∀ b,H b=some (.own a)->H' b=some (.own a)) (ht:∀ b xs,H b=some (.tup xs)->H' b=some (.tup xs)):iP P w H' h' a o:=by
 induction o with
 | lst xs=>obtain ⟨z,its,n,r,e⟩:=x;exact ⟨z,its,n,r,k _ _ (.inl rfl) e⟩
 | tup xs=>obtain ⟨z,its,r,ob,e,c⟩:=x;exact ⟨z,its,r,ob,k _ _ (.inl rfl) e,c⟩
 | dK kvs=>obtain ⟨z,y,vs,r,ob,es,ep,e,c⟩:=x;exact ⟨z,y,vs,r,ob,es,ep,k _ _ (.inl rfl) e,c⟩
 | dT kvs=>
  obtain ⟨z,y,xs,r,ob,es,ep,e,c⟩:=x
  exact ⟨z,y,xs,Paired.mapP r fun p q z=>⟨z.1,ht _ _ z.2.1,z.2.2⟩,ob,es,ep,k _ _ (.inl rfl) e,c⟩
 | set S n=>obtain ⟨ob,es,ep,t,e,c⟩:=x;exact ⟨ob,es,ep,t,k _ _ (.inl rfl) e,c⟩
 | ins C dx fs=>
  obtain ⟨d,z,ne,e,mA,⟨od,es,ep,e2,c⟩,r⟩:=x
  exact ⟨ho _ d,z,ne,k _ _ (.inl rfl) e,mA,⟨od,es,ep,k _ _ (.inr d) e2,c⟩,r⟩
 | own y=>obtain ⟨ob,e⟩:=x;exact ⟨ob,k _ _ (.inl rfl) e⟩
 | xd fs=>obtain ⟨mA,⟨od,es,ep,e,c⟩,r⟩:=x;exact ⟨mA,⟨od,es,ep,k _ _ (.inl rfl) e,c⟩,r⟩
 | rng lo hi=>obtain ⟨t,u,v,e⟩:=x;exact ⟨t,u,v,k _ _ (.inl rfl) e⟩
 | frz ob u ih=>obtain ⟨e,q⟩:=x;exact ⟨k _ _ (.inl rfl) e,ih q⟩
 | tbl ps=>
  have e:h.get? a=some { cls:=.none,data:=.fields ps }:=x
  show h'.get? a=some { cls:=.none,data:=.fields ps }
  exact k a _ (.inl rfl) e
 | met f y=>
  have e:h.get? a=some (PySem.W.methodObj (.ref f) (.ref y)):=x
  show h'.get? a=some (PySem.W.methodObj (.ref f) (.ref y))
  exact k a _ (.inl rfl) e
 | ext φ=>obtain ⟨p,⟨o,e⟩,st⟩:=x;exact ⟨st _ _ p fun o q=>k _ _ (.inl rfl) q,⟨o,k _ _ (.inl rfl) e⟩,st⟩
theorem HOk.lt (x:HOk P w H h) (e:H a=some o):a < h.objs.size:=(x a o e).lt
theorem HOk.fresh (x:HOk P w H h) (e:h.objs.size<=a):H a=none:=by
 cases q:H a with
 | none=>rfl
 | some u=>exact absurd (Nat.lt_of_lt_of_le (x.lt q) e) (Nat.lt_irrefl _)
theorem HOk.kept (x:HOk P w H h) (k:∀ b u,h.get? b=some u->h'.get? b=some u):HOk P w H h':=fun a o e=>
 (x a o e).stay (fun b u _ q=>k b u q) (fun _ q=>q) fun _ _ q=>q
theorem HOk.laid (x:HOk P w H h) (k:∀ b u,h.get? b=some u->h'.get? b=some u) (hp:h.objs.size<=a) (new:iP P w (upd H a o) h' a o):HOk P w (upd H a o) h':=fun b u e=>by
 have hn:=x.fresh hp
 by_cases hb:b=a
 ·subst hb;rw [aW] at e;cases e;exact new
 ·rw [bA hb] at e
  exact (x b u e).stay (fun c v _ q=>k c v q) (fun c q=>by rw [bA (aY q hn)];exact q) fun c xs q=>by rw [bA (aY q hn)];exact q
end
def Rd (H:Hp) (a:Addr) (u:HO):Prop:=H a=some u∨∃ o,H a=some (.frz o u)
theorem Rd.of {H:Hp} {a:Addr} {u:HO} (h:H a=some u):Rd H a u:=.inl h
theorem Rd.ok {P:Program} {w:World} {H:Hp} {h:Heap} {a:Addr} {u:HO} (r:Rd H a u) (x:HOk P w H h):iP P w H h a u:=by
 rcases r with r | ⟨o,r⟩
 ·exact x a u r
 ·obtain ⟨_,q⟩:=x a _ r
  exact q
def Mut:Option HO->Prop
 | some (.lst _)=>True
 | some (.dK _)=>True
 | some (.dT _)=>True
 | some (.set _ _)=>True
 | some (.ins _ _ _)=>True
 | some (.ext _)=>True
 | _=>False
section
variable {P:Program} {w:World} {H:Hp} {h h':Heap} {x e:Addr} {o':HO}
theorem HOk.write (ok:HOk P w H h) (mu:Mut (H x)) (he:e=x∨H e=some (.own x)) (k:∀ b u,b≠e->h.get? b=some u->h'.get? b=some u) (heo:∃ u,h'.get? e=some u)
  (new:iP P w (upd H x o') h' x o'):HOk P w (upd H x o') h':=fun b u q=>by
 have nown:∀ c y,H c=some (.own y)->c≠x:=fun c y r z=>by subst z;rw [r] at mu;exact mu
 have ntup:∀ c xs,H c=some (.tup xs)->c≠x:=fun c xs r z=>by subst z;rw [r] at mu;exact mu
 by_cases hb:b=x
 ·subst hb;rw [aW] at q;cases q;exact new
 ·rw [bA hb] at q
  by_cases hbe:b=e
  ·have q':H b=some (.own x):=by
    rcases he with z | z
    ·exact absurd (hbe.trans z) hb
    ·rw [hbe];exact z
   rw [q] at q';cases q'
   obtain ⟨v,hv⟩:=heo
   exact ⟨v,by rw [hbe];exact hv⟩
  ·refine (ok b u q).stay (fun c v hc r=>k c v ?_ r) (fun c r=>by rw [bA (nown c b r)];exact r) fun c xs r=>by rw [bA (ntup c xs r)];exact r
   rcases hc with rfl | hc
   ·exact hbe
   ·rintro rfl
    rcases he with z | z
    ·exact nown c b hc z
    ·rw [hc] at z;cases z;exact hb rfl
end
structure Un (fs ex:List Addr) (H H':Hp) (h h':Heap):Prop where
 keep:∀ b o,h.get? b=some o->H b=none->b∉fs->b∉ex->h'.get? b=some o
 slot:∀ b o,h.get? b=some o->H b=none->b∈fs->b∉ex->∃ sl,h'.get? b=some { o with slots:=sl }
 free:∀ b o,h.get? b=some o->H b=none->b∉ex->H' b=none
 there:∀ b o,h.get? b=some o->b∉ex->∃ o',h'.get? b=some o'
 tups:∀ b xs,H b=some (.tup xs)->H' b=some (.tup xs)
 frzs:∀ b o u,H b=some (.frz o u)->H' b=some (.frz o u)
 tbls:∀ b ps,H b=some (.tbl ps)->∃ more,H' b=some (.tbl (ps++more))
section
variable {fs fs' ex ex':List Addr} {H H1 H2:Hp} {h h1 h2 h':Heap} {a x e:Addr} {o:HO}
theorem Un.any (u:Un fs ex H H1 h h1) {b:Addr} {ob:Obj} (q:h.get? b=some ob) (n:H b=none) (hx:b∉ex):∃ sl,h1.get? b=some { ob with slots:=sl }:=by
 by_cases hb:b∈fs
 ·exact u.slot b ob q n hb hx
 ·exact ⟨ob.slots,u.keep b ob q n hb hx⟩
theorem Un.kept (k:∀ b u,h.get? b=some u->h'.get? b=some u):Un fs ex H H h h':=
 ⟨fun b ob q _ _ _=>k b ob q,fun b ob q _ _ _=>⟨ob.slots,k b ob q⟩,fun _ _ _ n _=>n,fun b ob q _=>⟨ob,k b ob q⟩,fun _ _ q=>q,fun _ _ _ q=>q,fun _ ps q=>⟨#[],by rw [q];simp⟩⟩
theorem Un.refl:Un fs ex H H h h:=Un.kept fun _ _ q=>q
theorem Un.laid (k:∀ b u,h.get? b=some u->h'.get? b=some u) (hp:h.objs.size<=a) (hn:H a=none):Un fs ex H (upd H a o) h h' where
 keep:=fun b u q _ _ _=>k b u q
 slot:=fun b u q _ _ _=>⟨u.slots,k b u q⟩
 free:=fun b u q n _=>by rw [bA (Nat.ne_of_lt (Nat.lt_of_lt_of_le (Heap.lt_size q) hp))];exact n
 there:=fun b u q _=>⟨u,k b u q⟩
 tups:=fun b xs q=>by rw [bA (aY q hn)];exact q
 frzs:=fun b u xs q=>by rw [bA (aY q hn)];exact q
 tbls:=fun b ps q=>⟨#[],by rw [bA (aY q hn),q];simp⟩
theorem Un.write (mu:Mut (H x)) (he:e=x∨H e=some (.own x)) (k:∀ b u,b≠e->h.get? b=some u->h'.get? b=some u) (heo:∃ u,h'.get? e=some u):Un fs ex H (upd H x o) h h':=by
 have hx:∀ b,H b=none->b≠x:=fun b n z=>by subst z;rw [n] at mu;exact mu
 have hb:∀ b,H b=none->b≠e:=fun b n z=>by
  subst z
  rcases he with r | r
  ·exact hx b n r
  ·rw [n] at r;cases r
 have hm:∀ b u,H b=some u->¬ Mut (some u)->b≠x:=fun b u q nm z=>by subst z;rw [q] at mu;exact nm mu
 refine ⟨fun b u q n _ _=>k b u (hb b n) q,fun b u q n _ _=>⟨u.slots,k b u (hb b n) q⟩,fun b u q n _=>by rw [bA (hx b n)];exact n,fun b u q _=>?_,
  fun b xs q=>by rw [bA (hm b _ q fun z=>z)];exact q,fun b u xs q=>by rw [bA (hm b _ q fun z=>z)];exact q,fun b ps q=>⟨#[],by rw [bA (hm b _ q fun z=>z),q];simp⟩⟩
 by_cases hbe:b=e
 ·subst hbe;exact heo
 ·exact ⟨u,k b u hbe q⟩
end
def trk (h:Heap) (H:Hp):List Addr:=(List.range h.objs.size).filter fun a=>(H a).isSome
def zFn (h:Heap) (H:Hp):Heap:=PySem.W.hideAll h (trk h H)
theorem zEK (h:Heap) (H:Hp):(zFn h H).objs.size=h.objs.size:=PySem.W.hideAll_size _ _
theorem zFG {h:Heap} {H:Hp} {b:Addr} {o:Obj} (e:h.get? b=some o) (n:H b=none):(zFn h H).get? b=some o:=
 PySem.W.hideAll_get _ e fun hm=>by
  have q:(H b).isSome=true:=(List.mem_filter.mp hm).2
  rw [n] at q;simp at q
theorem zIy {h:Heap} {H:Hp} {b:Addr} {o:Obj} (e:(zFn h H).get? b=some o):h.get? b=some o/\H b=none:=by
 have e':h.get? b=some o:=PySem.W.of_hideAll (trk h H) e
 refine ⟨e',?_⟩
 cases q:H b with
 | none=>rfl
 | some x=>
  have hm:b∈trk h H:=List.mem_filter.mpr ⟨List.mem_range.mpr (Heap.lt_size e'),by simp [q]⟩
  have z:(zFn h H).get? b=none:=PySem.W.hideAll_none (trk h H) hm
  rw [z] at e;cases e
def zJj (g h:Heap) (L:Addr):List (Addr×Obj):=(List.range h.objs.size).filterMap fun a=>if a=L∨(g.get? a).isSome=true then none else (h.get? a).map fun o=>(a,o)
def rest (g h:Heap) (L d:Addr):List (Addr×Obj):=(zJj g h L).filter fun p=>decide (p.1≠d)
end L2
namespace L2
open PySem PySem.Spec PyProof.Rows
structure Mod (K:PySem.W.Frag) (mg:Str->Option Value) (base:Heap):Prop where
 kin:K.In base
 glob:base.Ns mainGlobals mg
 blt:∃ mb,base.Ns builtinsNs mb/\∀ x:Str,x ≠ "__name__" -> mb x=bootBuiltins x
 nolimit:base.NoLimit
structure Cx where
 prog:Program
 w:World
 K:PySem.W.Frag
 mg:Str->Option Value
 base:Heap
 A:Around
 N:List Str
 s₀:Shared
 H₀:Hp
 env:Env
 outer:List Env
 stack:List Env
 ex:List Addr
 fn:Str->Bool
 calm:Bool
 pn:List (Addr×Obj)
 xe:Value->Shared->Prop
def frs (l:List Env):List Addr:=l.filterMap (·.frame)
abbrev Cx.fs (X:Cx):List Addr:=frs X.outer
def Vis (sc:Scope) (x:Str):Prop:=sc.names.lookup x=some .local∨sc.names.lookup x=some .cell∨sc.names.lookup x=some .free
def Loc (sc:Scope) (x:Str):Prop:=sc.names.lookup x=some .local∨sc.names.lookup x=some .cell
def zNC (env:Env) (h:Heap) (m:Str->Option Value) (x:Str) (u:Value):Prop:=
 (env.kindOf x=some .local/\m x=some u)∨((env.kindOf x=some .cell∨env.kindOf x=some .free)/\∃ c,env.cells.lookup x=some c/\h.IsCell c (some u))
structure Cx.Ok (X:Cx):Prop where
 mod:Mod X.K X.mg X.base
 kind:X.env.scope.kind=.function
 glob:X.env.globals=mainGlobals
 blt:X.env.builtins=builtinsNs
 above:X.s₀.heap.objs.size<=X.env.locals
 inj:∀ x y c,X.env.cells.lookup x=some c->X.env.cells.lookup y=some c->x=y
 has:∀ x,(X.env.kindOf x=some .cell∨X.env.kindOf x=some .free)->∃ c,X.env.cells.lookup x=some c
 cab:∀ x c,X.fn x=true->X.env.cells.lookup x=some c->X.s₀.heap.objs.size<=c
 hd:X.calm=true->X.A.handled=none
 frames:X.A.frames=some X.stack
 stk:X.stack=X.outer∨(X.stack=X.env::X.outer/\X.env.frame=some X.env.locals)
 exf:∀ b∈X.ex,b≠X.env.locals/\∀ x c,X.env.cells.lookup x=some c->c≠b
 bs:∀ b o,X.base.get? b=some o->X.s₀.heap.get? b=some o/\X.H₀ b=none
 bsz:X.base.objs.size<=X.s₀.heap.objs.size
 noex:∀ b o,X.base.get? b=some o->b∉X.ex
 exfs:∀ b∈X.ex,b∉X.fs
 funs:X.s₀.heap.FunFrames X.base X.outer
 frf:∀ b∈X.fs,X.H₀ b=none
structure Inv (X:Cx) (pins:List (Addr×Obj)) (σ:List (Option V)) (H:Hp) (s:Shared):Prop where
 ok:X.Ok
 os:s.os=X.s₀.os
 bare:AllBare s.gens
 base:Un X.fs X.ex X.H₀ H X.s₀.heap s.heap
 loc:∃ m,s.heap.Ns X.env.locals m/\∀ (i:Nat) (x:Str) (v:V),X.N[i]?=some x->σ[i]?=some (some v)->Vis X.env.scope x->∃ u,cQ v u/\zNC X.env s.heap m x u
 cell:∀ x c,X.env.cells.lookup x=some c->∃ v,s.heap.IsCell c v
 free:H X.env.locals=none
 freeC:∀ x c,X.env.cells.lookup x=some c->H c=none
 pin:∀ p∈X.pn++pins,s.heap.get? p.1=some p.2/\H p.1=none/\p.1≠X.env.locals/\p.1∉X.fs/\∀ v,p.2.data≠.cell v
 hok:HOk X.prog X.w H s.heap
 len:σ.length=X.N.length
section
variable {X:Cx} {pins:List (Addr×Obj)} {σ:List (Option V)} {H H':Hp} {s:Shared} {h':Heap}
theorem Cx.Ok.nofr (ok:X.Ok) {b:Addr} {o:Obj} (e:X.base.get? b=some o):b∉X.fs:=fun hb=>by
 have:=(ok.funs.mem hb).1
 rw [e] at this;cases this
theorem Inv.bs (I:Inv X pins σ H s):∀ b o,X.base.get? b=some o->s.heap.get? b=some o/\H b=none:=fun b o e=>
 ⟨I.base.keep b o (I.ok.bs b o e).1 (I.ok.bs b o e).2 (I.ok.nofr e) (I.ok.noex b o e),I.base.free b o (I.ok.bs b o e).1 (I.ok.bs b o e).2 (I.ok.noex b o e)⟩
theorem Inv.bk (I:Inv X pins σ H s):∀ b o,X.base.get? b=some o->s.heap.get? b=some o:=fun b o e=>(I.bs b o e).1
theorem Inv.mod (I:Inv X pins σ H s):Mod X.K X.mg X.base:=I.ok.mod
theorem Inv.kIn (I:Inv X pins σ H s):X.K.In s.heap:=I.ok.mod.kin.keeps I.bk
theorem Inv.lt (I:Inv X pins σ H s):X.env.locals < s.heap.objs.size:=let ⟨_,hn,_⟩:=I.loc;hn.lt
theorem Inv.sz (I:Inv X pins σ H s):X.s₀.heap.objs.size<=s.heap.objs.size:=Nat.le_trans I.ok.above (Nat.le_of_lt I.lt)
theorem Inv.nofs (I:Inv X pins σ H s) {a:Addr} (h:s.heap.objs.size<=a):a∉X.fs:=fun hb=>by
 obtain ⟨_,o,ho,_⟩:=I.ok.funs.mem hb
 exact absurd (Nat.lt_of_lt_of_le (Heap.lt_size ho) (Nat.le_trans I.sz h)) (Nat.lt_irrefl _)
theorem Inv.cne (I:Inv X pins σ H s):∀ x c,X.env.cells.lookup x=some c->c≠X.env.locals:=fun x c e z=>by
 obtain ⟨v,o,ho,hd⟩:=I.cell x c e
 obtain ⟨m,⟨o',es,ep,ho',hd',_⟩,_⟩:=I.loc
 rw [z,ho'] at ho;cases ho;rw [hd'] at hd;cases hd
theorem Inv.funs (I:Inv X pins σ H s):s.heap.FunFrames X.base X.outer:=by
 have all:∀ (l:List Env),(∀ b∈frs l,b∈X.fs)->X.s₀.heap.FunFrames X.base l->s.heap.FunFrames X.base l:=by
  intro l
  induction l with
  | nil=>intro _ _;trivial
  | cons env r ih=>
   intro hs hl
   obtain ⟨hk,⟨L,o,hf,hn,ho,hd⟩,hr⟩:=hl
   have hL:L∈X.fs:=hs L (by unfold frs;rw [List.filterMap_cons,hf];exact List.mem_cons_self)
   obtain ⟨sl,e⟩:=I.base.slot L o ho (I.ok.frf L hL) hL fun z=>I.ok.exfs L z hL
   exact ⟨hk,⟨L,_,hf,hn,e,hd⟩,ih (fun b hb=>hs b (by unfold frs;rw [List.filterMap_cons,hf];exact List.mem_cons_of_mem _ hb)) hr⟩
 exact all X.outer (fun _ hb=>hb) I.ok.funs
theorem Inv.stack (I:Inv X pins σ H s):s.heap.FunFrames X.base X.stack:=by
 rcases I.ok.stk with e | ⟨e,hf⟩
 ·rw [e];exact I.funs
 ·rw [e]
  obtain ⟨m,hn,_⟩:=I.loc
  refine .cons (by rw [I.ok.kind];decide) hf hn ?_ I.funs
  exact Heap.get?_none_of_le (Nat.le_trans I.ok.bsz I.ok.above)
theorem Inv.stkSub (I:Inv X pins σ H s):∀ b∈frs X.stack,b∈X.env.locals::X.fs:=fun b hb=>by
 rcases I.ok.stk with e | ⟨e,hf⟩
 ·rw [e] at hb;exact List.mem_cons_of_mem _ hb
 ·rw [e] at hb
  unfold frs at hb
  rw [List.filterMap_cons,hf] at hb
  exact hb
theorem Inv.stkFree (I:Inv X pins σ H s):∀ b∈frs X.stack,H b=none:=fun b hb=>by
 rcases List.mem_cons.mp (I.stkSub b hb) with e | hb
 ·rw [e];exact I.free
 ·obtain ⟨_,o,ho,_⟩:=I.ok.funs.mem hb
  exact I.base.free b o ho (I.ok.frf b hb) fun z=>I.ok.exfs b z hb
theorem Inv.step {g':Array GenState} {t':Nat} {d':Drawn} {ch:List Addr} (I:Inv X pins σ H s)
  (hch:∀ b∈ch,(b∈X.ex∨X.s₀.heap.objs.size<=b)/\b≠X.env.locals/\(∀ x c,X.env.cells.lookup x=some c->c≠b)/\∀ p∈X.pn++pins,p.1≠b)
  (keep:∀ b o,b≠X.env.locals->b∉X.fs->b∉ch->s.heap.get? b=some o->H b=none->h'.get? b=some o)
  (slot:∀ b o,b≠X.env.locals->b∈X.fs->b∉ch->s.heap.get? b=some o->H b=none->∃ sl,h'.get? b=some { o with slots:=sl }) (free:∀ b o,b∉ch->s.heap.get? b=some o->H b=none->H' b=none)
  (there:∀ b o,b∉ch->s.heap.get? b=some o->∃ o',h'.get? b=some o')
  (tups:∀ b xs,H b=some (.tup xs)->H' b=some (.tup xs)) (frzs:∀ b o u,H b=some (.frz o u)->H' b=some (.frz o u)) (tbls:∀ b ps,H b=some (.tbl ps)->∃ more,H' b=some (.tbl (ps++more)))
  (ns:∀ m,s.heap.Ns X.env.locals m->h'.Ns X.env.locals m) (hok:HOk X.prog X.w H' h') (hg:AllBare g'):
  Inv X pins σ H' { s with heap:=h',gens:=g',drawn:=d',toks:=t' }:=by
 have neL:∀ b o,X.s₀.heap.get? b=some o->b≠X.env.locals:=fun b o e=>Nat.ne_of_lt (Nat.lt_of_lt_of_le (Heap.lt_size e) I.ok.above)
 have neC:∀ b o,X.s₀.heap.get? b=some o->b∉X.ex->b∉ch:=fun b o e hx hb=>by
  rcases (hch b hb).1 with z | z
  ·exact hx z
  ·exact absurd (Nat.lt_of_lt_of_le (Heap.lt_size e) z) (Nat.lt_irrefl _)
 have cellK:∀ x c,X.env.cells.lookup x=some c->∀ v,s.heap.IsCell c v->h'.IsCell c v:=fun x c e v ⟨o,ho,hd⟩=>by
  have nch:c∉ch:=fun z=>(hch c z).2.2.1 x c e rfl
  by_cases hc:c∈X.fs
  ·obtain ⟨sl,q⟩:=slot c o (I.cne x c e) hc nch ho (I.freeC x c e)
   exact ⟨_,q,hd⟩
  ·exact ⟨o,keep c o (I.cne x c e) hc nch ho (I.freeC x c e),hd⟩
 refine ⟨I.ok,I.os,hg,⟨fun b o e n hb hx=>?_,fun b o e n hb hx=>?_,fun b o e n hx=>?_,fun b o e hx=>?_,fun b xs e=>tups b xs (I.base.tups b xs e),fun b o xs e=>frzs b o xs (I.base.frzs b o xs e),fun b ps e=>?_⟩,?_,fun x c e=>?_,?_,fun x c e=>?_,fun p hp=>?_,hok,I.len⟩
 ·exact keep b o (neL b o e) hb (neC b o e hx) (I.base.keep b o e n hb hx) (I.base.free b o e n hx)
 ·obtain ⟨sl,e1⟩:=I.base.slot b o e n hb hx
  obtain ⟨sl',e2⟩:=slot b _ (neL b o e) hb (neC b o e hx) e1 (I.base.free b o e n hx)
  exact ⟨sl',e2⟩
 ·obtain ⟨o',e1⟩:=I.base.there b o e hx
  exact free b o' (neC b o e hx) e1 (I.base.free b o e n hx)
 ·obtain ⟨o',e1⟩:=I.base.there b o e hx
  exact there b o' (neC b o e hx) e1
 ·obtain ⟨m1,e1⟩:=I.base.tbls b ps e
  obtain ⟨m2,e2⟩:=tbls b _ e1
  exact ⟨m1++m2,by rw [e2,Array.append_assoc]⟩
 ·obtain ⟨m,hn,hl⟩:=I.loc
  refine ⟨m,ns m hn,fun i x v e1 e2 e3=>?_⟩
  obtain ⟨u,r,l⟩:=hl i x v e1 e2 e3
  refine ⟨u,r,?_⟩
  rcases l with l | ⟨k,c,e,z⟩
  ·exact .inl l
  ·exact .inr ⟨k,c,e,cellK x c e _ z⟩
 ·obtain ⟨v,z⟩:=I.cell x c e
  exact ⟨v,cellK x c e v z⟩
 ·obtain ⟨m,⟨o,_,_,ho,_⟩,_⟩:=I.loc
  exact free _ o (fun z=>(hch _ z).2.1 rfl) ho I.free
 ·obtain ⟨v,o,ho,hd⟩:=I.cell x c e
  exact free c o (fun z=>(hch c z).2.2.1 x c e rfl) ho (I.freeC x c e)
 ·obtain ⟨e,n,ne,nf,d⟩:=I.pin p hp
  have nch:p.1∉ch:=fun z=>(hch p.1 z).2.2.2 p hp rfl
  exact ⟨keep p.1 p.2 ne nf nch e n,free p.1 p.2 nch e n,ne,nf,d⟩
theorem Inv.un {t':Nat} (I:Inv X pins σ H s) (u:Un X.fs [] H H' s.heap h') (hok:HOk X.prog X.w H' h'):Inv X pins σ H' { s with heap:=h',toks:=t' }:=by
 obtain ⟨m,⟨o,es,ep,ho,r⟩,_⟩:=id I.loc
 obtain ⟨sl,hL⟩:=u.any ho I.free (by simp)
 exact I.step (g':=s.gens) (d':=s.drawn) (ch:=[]) (fun _ z=>nomatch z) (fun b o _ hb _ e n=>u.keep b o e n hb (by simp)) (fun b o _ hb _ e n=>u.slot b o e n hb (by simp)) (fun b o _ e n=>u.free b o e n (by simp)) (fun b o _ e=>u.there b o e (by simp)) u.tups u.frzs u.tbls (fun m' hm=>by
  obtain ⟨o',es',ep',ho',r'⟩:=hm
  rw [ho] at ho';cases ho'
  exact ⟨_,es',ep',hL,r'⟩) hok I.bare
theorem Inv.call {g':Array GenState} {t':Nat} {d':Drawn} {ch:List Addr} (I:Inv X pins σ H s) (u:Un (frs X.stack) ch H H' s.heap h') (hok:HOk X.prog X.w H' h') (hg:AllBare g')
  (hch:∀ b∈ch,(b∈X.ex∨X.s₀.heap.objs.size<=b)/\b≠X.env.locals/\(∀ x c,X.env.cells.lookup x=some c->c≠b)/\∀ p∈X.pn++pins,p.1≠b):
  Inv X pins σ H' { s with heap:=h',gens:=g',drawn:=d',toks:=t' }:=by
 obtain ⟨m,⟨o,es,ep,ho,r⟩,_⟩:=id I.loc
 obtain ⟨sl,hL⟩:=u.any ho I.free fun z=>(hch _ z).2.1 rfl
 exact I.step (ch:=ch) hch (fun b o hL hb hc e n=>u.keep b o e n (fun z=>(List.mem_cons.mp (I.stkSub b z)).elim hL hb) hc) (fun b o _ _ hc e n=>u.any e n hc) (fun b o hc e n=>u.free b o e n hc) (fun b o hc e=>u.there b o e hc) u.tups u.frzs u.tbls (fun m' hm=>by
  obtain ⟨o',es',ep',ho',r'⟩:=hm
  rw [ho] at ho';cases ho'
  exact ⟨_,es',ep',hL,r'⟩) hok hg
theorem Inv.turned {t':Nat} {it:Addr} (I:Inv X pins σ H s) (k:∀ b o,b≠it->s.heap.get? b=some o->h'.get? b=some o) (hn:H it=none) (hL:it≠X.env.locals)
  (h1:it∈X.ex∨X.s₀.heap.objs.size<=it) (h2:∀ x c,X.env.cells.lookup x=some c->c≠it) (h3:∀ p∈X.pn++pins,p.1≠it):Inv X pins σ H { s with heap:=h',toks:=t' }:=by
 have nit:∀ b u,H b=some u->b≠it:=fun b u e z=>by rw [z,hn] at e;cases e
 refine I.step (g':=s.gens) (d':=s.drawn) (ch:=[it]) (fun b hb=>?_) (fun b o _ _ hc e _=>k b o (fun z=>hc (by simp [z])) e) (fun b o _ _ hc e _=>⟨o.slots,k b o (fun z=>hc (by simp [z])) e⟩) (fun _ _ _ _ n=>n)
  (fun b o hc e=>⟨o,k b o (fun z=>hc (by simp [z])) e⟩) (fun _ _ e=>e) (fun _ _ _ e=>e) (fun b ps e=>⟨#[],by rw [e];simp⟩) (fun m hm=>?_) (fun b u e=>?_) I.bare
 ·have e:b=it:=by simpa using hb
  subst e
  exact ⟨h1,hL,h2,h3⟩
 ·obtain ⟨o,es,ep,ho,r⟩:=hm
  exact ⟨o,es,ep,k _ o (Ne.symm hL) ho,r⟩
 ·refine (I.hok b u e).stay (fun c v hc q=>k c v ?_ q) (fun _ q=>q) fun _ _ q=>q
  rcases hc with z | z
  ·rw [z];exact nit b u e
  ·exact nit c _ z
theorem Inv.tok (I:Inv X pins σ H s) (t:Nat):Inv X pins σ H { s with toks:=t }:=I.un (h':=s.heap) (t':=t) Un.refl I.hok
theorem Inv.kept {t':Nat} (I:Inv X pins σ H s) (k:∀ b u,s.heap.get? b=some u->h'.get? b=some u):Inv X pins σ H { s with heap:=h',toks:=t' }:=I.un (Un.kept k) (I.hok.kept k)
theorem Inv.laid {a:Addr} {o:HO} {t':Nat} (I:Inv X pins σ H s) (k:∀ b u,s.heap.get? b=some u->h'.get? b=some u) (hp:s.heap.objs.size<=a) (new:iP X.prog X.w (upd H a o) h' a o):
  Inv X pins σ (upd H a o) { s with heap:=h',toks:=t' }:=I.un (Un.laid k hp (I.hok.fresh hp)) (I.hok.laid k hp new)
theorem Inv.write {x e:Addr} {o:HO} {t':Nat} (I:Inv X pins σ H s) (mu:Mut (H x)) (he:e=x∨H e=some (.own x)) (k:∀ b u,b≠e->s.heap.get? b=some u->h'.get? b=some u) (heo:∃ u,h'.get? e=some u)
  (new:iP X.prog X.w (upd H x o) h' x o):Inv X pins σ (upd H x o) { s with heap:=h',toks:=t' }:=I.un (Un.write mu he k heo) (I.hok.write mu he k heo new)
theorem Inv.pins_of {pins':List (Addr×Obj)} (I:Inv X pins σ H s) (h:∀ p∈pins',s.heap.get? p.1=some p.2/\H p.1=none/\p.1≠X.env.locals/\p.1∉X.fs/\∀ v,p.2.data≠.cell v):Inv X pins' σ H s:=
 ⟨I.ok,I.os,I.bare,I.base,I.loc,I.cell,I.free,I.freeC,fun p hp=>(List.mem_append.mp hp).elim (fun z=>I.pin p (List.mem_append_left _ z)) (h p),I.hok,I.len⟩
theorem zCk {N:List Str} (hN:N.Nodup) {i j:Nat} {x:Str} (a:N[i]?=some x) (b:N[j]?=some x):i=j:=by
 obtain ⟨h1,e1⟩:=List.getElem?_eq_some_iff.mp a
 obtain ⟨h2,e2⟩:=List.getElem?_eq_some_iff.mp b
 exact (List.getElem_inj hN).mp (e1.trans e2.symm)
theorem yU {M:Model} {A:Around} {E:Value->Shared->Prop} {i:Nat} {x:Str} {v:V} {u:Value} {Q:Unit->Shared->Prop} (I:Inv X pins σ H s) (hN:X.N.Nodup) (hi:X.N[i]?=some x) (hx:Loc X.env.scope x) (r:cQ v u)
  (h:∀ s',Inv X pins (σ.set i (some v)) H s'->(∃ a,Heap.SameBut a s.heap s'.heap/\(a=X.env.locals∨X.env.cells.lookup x=some a))->Q () s') (hf:X.fn x=true∨X.env.scope.names.lookup x=some .local:=by first | exact .inl rfl | exact .inr rfl | assumption):wpAny M A (storeName X.env x u) Q E s:=by
 obtain ⟨m,hn,hl⟩:=id I.loc
 have hcls:(X.env.scope.kind==.class || (X.env.scope.kind==.module && X.env.locals != X.env.globals))=false:=by rw [I.ok.kind];rfl
 have hiσ:i < σ.length:=by rw [I.len];exact (List.getElem?_eq_some_iff.mp hi).1
 have cne:=I.cne
 have tracked:∀ {a:Addr} {h':Heap},(∃ o,s.heap.get? a=some o/\H a=none)->Heap.SameBut a s.heap h'->HOk X.prog X.w H h':=fun {a h'} ha hs b ob e=>by
  obtain ⟨_,_,hfree⟩:=ha
  refine (I.hok b ob e).stay (fun c w' hc q=>(hs.2 c ?_).trans q) (fun _ q=>q) fun _ _ q=>q
  rintro rfl
  rcases hc with rfl | hc
  ·rw [hfree] at e;cases e
  ·rw [hfree] at hc;cases hc
 rcases hx with hk | hk
 ·refine wpAny_storeName_local hk hn (fun h' hn' hs=>?_) hcls
  obtain ⟨oL,_,_,hoL,_⟩:=id hn
  refine h _ ⟨I.ok,I.os,I.bare,⟨fun b o e n hb hx=>?_,fun b o e n hb hx=>?_,I.base.free,fun b o e hx=>?_,I.base.tups,I.base.frzs,I.base.tbls⟩,⟨_,hn',fun j y v' e1 e2 e3=>?_⟩,fun y c e=>?_,I.free,I.freeC,fun p hp=>?_,tracked ⟨oL,hoL,I.free⟩ hs,by simpa using I.len⟩ ⟨_,hs,.inl rfl⟩
  ·exact (hs.2 b (Nat.ne_of_lt (Nat.lt_of_lt_of_le (Heap.lt_size e) I.ok.above))).trans (I.base.keep b o e n hb hx)
  ·obtain ⟨sl,e1⟩:=I.base.slot b o e n hb hx
   exact ⟨sl,(hs.2 b (Nat.ne_of_lt (Nat.lt_of_lt_of_le (Heap.lt_size e) I.ok.above))).trans e1⟩
  ·obtain ⟨o',e1⟩:=I.base.there b o e hx
   exact ⟨o',(hs.2 b (Nat.ne_of_lt (Nat.lt_of_lt_of_le (Heap.lt_size e) I.ok.above))).trans e1⟩
  ·by_cases hj:j=i
   ·subst hj
    rw [hi] at e1;cases e1
    rw [List.getElem?_set_self hiσ] at e2
    cases e2
    exact ⟨u,r,.inl ⟨hk,by simp⟩⟩
   ·rw [List.getElem?_set_ne (Ne.symm hj)] at e2
    obtain ⟨u',r',q⟩:=hl j y v' e1 e2 e3
    refine ⟨u',r',?_⟩
    rcases q with ⟨k,e⟩ | ⟨k,c,e,z⟩
    ·refine .inl ⟨k,?_⟩
     have:y≠x:=fun e=>hj (zCk hN e1 (e ▸ hi))
     simp [this,e]
    ·exact .inr ⟨k,c,e,z.sameBut hs (cne y c e)⟩
  ·obtain ⟨w',z⟩:=I.cell y c e
   exact ⟨w',z.sameBut hs (cne y c e)⟩
  ·obtain ⟨e,n,ne,nf,d⟩:=I.pin p hp
   exact ⟨(hs.2 p.1 ne).trans e,n,ne,nf,d⟩
 ·have hfn:X.fn x=true:=by
   rcases hf with z | z
   ·exact z
   ·rw [z] at hk;cases hk
  obtain ⟨c,hc⟩:=I.ok.has x (.inl hk)
  obtain ⟨w',z⟩:=I.cell x c hc
  refine wpAny_storeName_cell I.ok.kind hk hc z (fun h' hc' hs=>?_)
  obtain ⟨oc,hoc,hocd⟩:=id z
  refine h { s with heap:=h' } ⟨I.ok,I.os,I.bare,⟨fun b o e n hb hx=>?_,fun b o e n hb hx=>?_,I.base.free,fun b o e hx=>?_,I.base.tups,I.base.frzs,I.base.tbls⟩,⟨m,hn.sameBut hs (Ne.symm (cne x c hc)),fun j y v' e1 e2 e3=>?_⟩,fun y c' e=>?_,I.free,I.freeC,fun p hp=>?_,tracked ⟨oc,hoc,I.freeC x c hc⟩ hs,by simpa using I.len⟩ ⟨c,hs,.inr hc⟩
  ·exact (hs.2 b (Nat.ne_of_lt (Nat.lt_of_lt_of_le (Heap.lt_size e) (I.ok.cab x c hfn hc)))).trans (I.base.keep b o e n hb hx)
  ·obtain ⟨sl,e1⟩:=I.base.slot b o e n hb hx
   exact ⟨sl,(hs.2 b (Nat.ne_of_lt (Nat.lt_of_lt_of_le (Heap.lt_size e) (I.ok.cab x c hfn hc)))).trans e1⟩
  ·obtain ⟨o',e1⟩:=I.base.there b o e hx
   exact ⟨o',(hs.2 b (Nat.ne_of_lt (Nat.lt_of_lt_of_le (Heap.lt_size e) (I.ok.cab x c hfn hc)))).trans e1⟩
  ·by_cases hj:j=i
   ·subst hj
    rw [hi] at e1;cases e1
    rw [List.getElem?_set_self hiσ] at e2
    cases e2
    exact ⟨u,r,.inr ⟨.inl hk,c,hc,hc'⟩⟩
   ·rw [List.getElem?_set_ne (Ne.symm hj)] at e2
    obtain ⟨u',r',q⟩:=hl j y v' e1 e2 e3
    refine ⟨u',r',?_⟩
    rcases q with q | ⟨k,c',e,z'⟩
    ·exact .inl q
    ·refine .inr ⟨k,c',e,z'.sameBut hs ?_⟩
     rintro rfl
     exact hj (zCk hN e1 (I.ok.inj _ _ _ e hc ▸ hi))
  ·by_cases hcc:c'=c
   ·subst hcc;exact ⟨_,hc'⟩
   ·obtain ⟨w2,z2⟩:=I.cell y c' e
    exact ⟨w2,z2.sameBut hs hcc⟩
  ·obtain ⟨e,n,ne,nf,d⟩:=I.pin p hp
   refine ⟨(hs.2 p.1 ?_).trans e,n,ne,nf,d⟩
   intro q
   rw [q,hoc] at e
   have q':oc=p.2:=Option.some.inj e
   exact d w' (by rw [<-q'];exact hocd)
theorem pI {M:Model} {A:Around} {E:Value->Shared->Prop} {i:Nat} {x:Str} {v:V} {u:Value} {Q:Unit->Shared->Prop} (I:Inv X pins σ H s) (hN:X.N.Nodup) (hi:X.N[i]?=some x) (hx:Loc X.env.scope x) (r:cQ v u)
  (h:∀ s',Inv X pins (σ.set i (some v)) H s'->Q () s') (hf:X.fn x=true∨X.env.scope.names.lookup x=some .local:=by first | exact .inl rfl | exact .inr rfl | assumption):wpAny M A (storeName X.env x u) Q E s:=
 yU I hN hi hx r (fun s' I' _=>h s' I') hf
theorem Inv.call' {s':Shared} {ch:List Addr} (I:Inv X pins σ H s) (ho:s'.os=s.os) (u:Un (frs X.stack) ch H H' s.heap s'.heap) (hok:HOk X.prog X.w H' s'.heap) (hg:AllBare s'.gens)
  (hch:∀ b∈ch,(b∈X.ex∨X.s₀.heap.objs.size<=b)/\b≠X.env.locals/\(∀ x c,X.env.cells.lookup x=some c->c≠b)/\∀ p∈X.pn++pins,p.1≠b):Inv X pins σ H' s':=by
 obtain ⟨h',g',d',t',o'⟩:=s'
 have e:o'=s.os:=ho
 subst e
 exact I.call (g':=g') (t':=t') (d':=d') u hok hg hch
end
abbrev XK:=Value->Option Addr->Hp->Prop
abbrev St:=List (Option V)
abbrev VK:=V->Hp->Prop
abbrev TE:=St->Hp->VK->Prop
abbrev TT:=St->Hp->(Bool->Hp->Prop)->Prop
abbrev TA:=St->Hp->(List V->Hp->Prop)->Prop
structure Ends where
 nx:St->Hp->Prop
 rt:VK
 bk:St->Hp->Prop:=fun _ _=>False
 ct:St->Hp->Prop:=fun _ _=>False
abbrev TS:=Ends->St->Hp->Prop
def EP (X:Cx) (pins:List (Addr×Obj)) (σ:St) (Q:VK) (u:Value) (s':Shared):Prop:=∃ v H',Inv X pins σ H' s'/\cQ v u/\Q v H'
def TP (X:Cx) (pins:List (Addr×Obj)) (σ:St) (Q:Bool->Hp->Prop) (b:Bool) (s':Shared):Prop:=∃ H',Inv X pins σ H' s'/\Q b H'
def AP (X:Cx) (pins:List (Addr×Obj)) (σ:St) (Q:List V->Hp->Prop) (us:List Value) (s':Shared):Prop:=∃ vs H',Inv X pins σ H' s'/\cM vs us/\Q vs H'
def SP (X:Cx) (pins:List (Addr×Obj)) (D:Ends) (f:Flow) (s':Shared):Prop:=
 match f with
 | .next=>∃ σ' H',Inv X pins σ' H' s'/\D.nx σ' H'
 | .brk=>∃ σ' H',Inv X pins σ' H' s'/\D.bk σ' H'
 | .cont=>∃ σ' H',Inv X pins σ' H' s'/\D.ct σ' H'
 | .ret u=>∃ v σ' H',Inv X pins σ' H' s'/\cQ v u/\D.rt v H'
def PE (X:Cx) (e:Expr) (t:TE):Prop:=
 ∀ (pins:List (Addr×Obj)) (s:Shared) (σ:St) (H:Hp) (Q:VK),Inv X pins σ H s->t σ H Q->wpAny (model X.prog X.w) X.A (eval e X.env) (EP X pins σ Q) X.xe s
def PT (X:Cx) (e:Expr) (t:TT):Prop:=
 ∀ (pins:List (Addr×Obj)) (s:Shared) (σ:St) (H:Hp) (Q:Bool->Hp->Prop),Inv X pins σ H s->t σ H Q->wpAny (model X.prog X.w) X.A (isTrue e X.env (eval e X.env)) (TP X pins σ Q) X.xe s
def PW (X:Cx) (e:Expr) (t:TT):Prop:=
 ∀ (whole:Sem Value) (pins:List (Addr×Obj)) (s:Shared) (σ:St) (H:Hp) (Q:Bool->Hp->Prop),Inv X pins σ H s->t σ H Q->wpAny (model X.prog X.w) X.A (isTrue e X.env whole) (TP X pins σ Q) X.xe s
theorem PW.pt {X:Cx} {e:Expr} {t:TT} (h:PW X e t):PT X e t:=h _
def PA (X:Cx) (es:List Expr) (t:TA):Prop:=
 ∀ (pos:Pos) (pins:List (Addr×Obj)) (s:Shared) (σ:St) (H:Hp) (Q:List V->Hp->Prop),Inv X pins σ H s->t σ H Q->wpAny (model X.prog X.w) X.A (spliced (backTo pos (starEach es X.env))) (AP X pins σ Q) X.xe s
def PS (X:Cx) (st:Stmt) (t:TS):Prop:=
 ∀ (pins:List (Addr×Obj)) (s:Shared) (σ:St) (H:Hp) (D:Ends),Inv X pins σ H s->t D σ H->wpAny (model X.prog X.w) X.A (exec st X.env) (SP X pins D) X.xe s
def PSs (X:Cx) (st:List Stmt) (t:TS):Prop:=
 ∀ (pins:List (Addr×Obj)) (s:Shared) (σ:St) (H:Hp) (D:Ends),Inv X pins σ H s->t D σ H->wpAny (model X.prog X.w) X.A (execs st X.env) (SP X pins D) X.xe s
theorem thn {α:Type} {t:Sem α} {Q Q':α->Shared->Prop} {M:Model} {A:Around} {E:Value->Shared->Prop} {s:Shared} (h:wpAny M A t Q E s) (hQ:∀ a s,Q a s->Q' a s):wpAny M A t Q' E s:=wpAny_mono h hQ fun _ _ x=>x
end L2
namespace L2
open PySem PySem.Spec PyProof.Rows
section
variable {X:Cx}
theorem bin {a b:Expr} {ta tb:TE} (ha:PE X a ta) (hb:PE X b tb) {pins:List (Addr×Obj)} {s:Shared} {σ:St} {H:Hp} {R:V->V->Hp->Prop} (I:Inv X pins σ H s) (h:ta σ H fun x H1=>tb σ H1 fun y H2=>R x y H2)
  {α:Type} {Q:α->Shared->Prop} {f:Value->Value->Sem α}
  (hf:∀ v u s2 x y H2,Inv X pins σ H2 s2->cQ x v->cQ y u->R x y H2->wpAny (model X.prog X.w) X.A (f v u) Q X.xe s2):
  wpAny (model X.prog X.w) X.A (eval a X.env) (fun v s₁=>wpAny (model X.prog X.w) X.A (eval b X.env) (fun u s₂=>wpAny (model X.prog X.w) X.A (f v u) Q X.xe s₂) X.xe s₁) X.xe s:=by
 refine thn (ha pins s σ H _ I h) fun v s1 ⟨x,H1,I1,r1,q1⟩=>?_
 refine thn (hb pins s1 σ H1 _ I1 q1) fun u s2 ⟨y,H2,I2,r2,q2⟩=>?_
 exact hf v u s2 x y H2 I2 r1 r2 q2
abbrev zCK (i:Nat):TE:=fun σ H Q=>∃ v,σ[i]?=some (some v)/\Q v H
abbrev tC (v:V):TE:=fun _ H Q=>Q v H
theorem qW {i:Nat} {x:Str} {pos:Pos} (hN:X.N[i]?=some x) (hv:Vis X.env.scope x) (hd:(x==("__debug__" : Str))=false:=by decide) (hcd:(x==("__classdict__" : Str))=false:=by decide):PE X (.Name x pos) (zCK i):=by
 intro pins s σ H Q I h
 obtain ⟨v,e,h⟩:=h
 obtain ⟨m,hn,hl⟩:=I.loc
 obtain ⟨u,r,l⟩:=hl i x v hN e hv
 have fin:EP X pins σ Q u s:=⟨v,H,I,r,h⟩
 rcases l with ⟨hk,hm⟩ | ⟨hk,c,hc,hcell⟩
 ·exact wpAny_Name (wpAny_loadName_local I.ok.kind hk hn hm fin) hd
 ·rcases hk with hk | hk
  ·exact wpAny_Name (wpAny_loadName_cell I.ok.kind hk hc hcell fin) hd
  ·exact wpAny_Name (wpAny_loadName_free I.ok.kind hk hc hcell fin hcd) hd
theorem aH {i j pos}:PE X (.Constant (.int i) j pos) (tC (.int i)):=fun _ _ _ H _ I h=>wpAny_Constant_int ⟨.int i,H,I.tok _,⟨_,rfl⟩,h⟩
theorem oW {b j pos}:PE X (.Constant (.bool b) j pos) (tC (.bl b)):=fun _ _ _ H _ I h=>Constant_bool ⟨.bl b,H,I,rfl,h⟩
theorem dO {x j pos}:PE X (.Constant (.str x) j pos) (tC (.str x)):=fun _ _ _ H _ I h=>Calls.Constant_str ⟨.str x,H,I.tok _,⟨_,rfl⟩,h⟩
def Gl (X:Cx) (x:Str):Prop:=X.env.kindOf x=some .globalImplicit
theorem zBc {E:Value->Shared->Prop} {pins:List (Addr×Obj)} {s:Shared} {σ:St} {H:Hp} {x:Str} {u:Value} {pos:Pos} {Q:Value->Shared->Prop} (I:Inv X pins σ H s) (hg:Gl X x) (hm:X.mg x=some u) (h:Q u s)
  (hd:(x==("__debug__" : Str))=false:=by decide):wpAny (model X.prog X.w) X.A (eval (.Name x pos) X.env) Q E s:=
 Calls.Name_function_global I.ok.kind hg (Calls.loadGlobal_global (by rw [I.ok.glob];exact I.mod.glob.keeps I.bk) hm h) hd
theorem kF {E:Value->Shared->Prop} {pins:List (Addr×Obj)} {s:Shared} {σ:St} {H:Hp} {x:Str} {u:Value} {pos:Pos} {Q:Value->Shared->Prop} (I:Inv X pins σ H s) (hg:Gl X x) (hm:X.mg x=none) (hv:bootBuiltins x=some u) (h:Q u s)
  (hn:x ≠ "__name__" := by decide) (hd:(x==("__debug__" : Str))=false:=by decide):wpAny (model X.prog X.w) X.A (eval (.Name x pos) X.env) Q E s:=by
 obtain ⟨mb,h1,h2⟩:=I.mod.blt
 exact Calls.Name_function_global I.ok.kind hg (Calls.loadGlobal_builtin (by rw [I.ok.glob];exact I.mod.glob.keeps I.bk) hm (by rw [I.ok.blt];exact h1.keeps I.bk) ((h2 x hn).trans hv) h) hd
theorem zDp {x:Str} {v:V} {u:Value} {pos:Pos} (hg:Gl X x) (hm:X.mg x=some u) (r:cQ v u) (hd:(x==("__debug__" : Str))=false:=by decide):PE X (.Name x pos) (tC v):=
 fun _ _ _ H _ I h=>zBc I hg hm ⟨v,H,I,r,h⟩ hd
theorem nY {x:Str} {v:V} {u:Value} {pos:Pos} (hg:Gl X x) (hm:X.mg x=none) (hv:bootBuiltins x=some u) (r:cQ v u) (hn:x ≠ "__name__" := by decide) (hd:(x==("__debug__" : Str))=false:=by decide):PE X (.Name x pos) (tC v):=
 fun _ _ _ H _ I h=>kF I hg hm hv ⟨v,H,I,r,h⟩ hn hd
variable {a b:Expr} {ta tb:TE} {pos:Pos}
def PC (X:Cx) (op:CmpOp) (a b:Expr) (t:TE):Prop:=
 ∀ (pins:List (Addr×Obj)) (s:Shared) (σ:St) (H:Hp) (Q:VK),Inv X pins σ H s->t σ H Q->
  wpAny (model X.prog X.w) X.A (eval a X.env) (fun v s₁=>wpAny (model X.prog X.w) X.A (eval b X.env) (fun u s₂=>wpAny (model X.prog X.w) X.A (compareOp op v u) (EP X pins σ Q) X.xe s₂) X.xe s₁) X.xe s
theorem zFQ (b:Expr) {op:CmpOp} (h:op≠.In) (h2:op≠.NotIn):behindInMarks op b=false:=by
 have e1:(op==CmpOp.In)=false:=by cases op<;>first | rfl | exact absurd rfl h
 have e2:(op==CmpOp.NotIn)=false:=by cases op<;>first | rfl | exact absurd rfl h2
 cases b<;>simp [behindInMarks,e1,e2]
abbrev tB (t:TE):TT:=fun σ H Q=>t σ H fun x H1=>∃ c,x=.bl c/\Q c H1
theorem zMP {op:CmpOp} {t:TE} (h:PC X op a b t) (h1:behindInMarks op b=false:=by first | exact zFQ _ (by decide) (by decide) | rfl):PT X (.Compare a [op] [b] pos) (tB t):=by
 intro pins s σ H Q I hw
 refine wpAny_isTrue_Compare1 (thn (h pins s σ H _ I hw) fun v s1 h1=>thn h1 fun u s2 h2=>thn h2 fun c s3 ⟨x,H1,I1,r1,q1⟩=>?_) h1
 obtain ⟨d,rfl,q⟩:=q1
 cases r1
 exact wpAny_truthy_bool ⟨H1,I1,q⟩
theorem zJI {e:Expr} {t:TE} (h:PE X e t) (he:∀ whole,isTrue e X.env whole=(do let v <-whole;standAt e.pos;holding [v] (truthy v)):=by intro _;rfl):PT X e (tB t):=by
 intro pins s σ H Q I hw
 refine isTrue_plain (thn (h pins s σ H _ I hw) fun v s1 ⟨x,H1,I1,r1,q1⟩=>?_) (he _)
 obtain ⟨d,rfl,q⟩:=q1
 cases r1
 exact wpAny_truthy_bool ⟨H1,I1,q⟩
variable {tA tB':TT} {rest:List Expr}
abbrev zNp (t u:TT):TT:=fun σ H Q=>t σ H fun c H1=>if c=true then u σ H1 Q else Q false H1
abbrev tOr (t u:TT):TT:=fun σ H Q=>t σ H fun c H1=>if c=true then Q true H1 else u σ H1 Q
abbrev zNj (t:TT):TT:=fun σ H Q=>t σ H fun c H1=>Q (!c) H1
theorem zJc (ha:PT X a tA):PW X (.BoolOp .And [a] pos) tA:=by
 intro wh pins s σ H Q I h
 refine isTrue_and (thn (ha pins s σ H Q I h) fun c s1 e=>?_)
 cases c with
 | true=>exact isTrue_and_nil e
 | false=>exact e
theorem zKf (ha:PT X a tA):PW X (.BoolOp .Or [a] pos) tA:=by
 intro wh pins s σ H Q I h
 refine isTrue_or (thn (ha pins s σ H Q I h) fun c s1 e=>?_)
 cases c with
 | false=>exact isTrue_or_nil e
 | true=>exact e
theorem zLr (ha:PT X a tA) (hb:PW X (.BoolOp .And (b::rest) pos) tB'):PW X (.BoolOp .And (a::b::rest) pos) (zNp tA tB'):=by
 intro wh pins s σ H Q I h
 refine isTrue_and (thn (ha pins s σ H _ I h) fun c s1 ⟨H1,I1,q1⟩=>?_)
 cases c with
 | true=>exact hb wh pins s1 σ H1 Q I1 q1
 | false=>exact ⟨H1,I1,q1⟩
theorem zMm (ha:PT X a tA) (hb:PW X (.BoolOp .Or (b::rest) pos) tB'):PW X (.BoolOp .Or (a::b::rest) pos) (tOr tA tB'):=by
 intro wh pins s σ H Q I h
 refine isTrue_or (thn (ha pins s σ H _ I h) fun c s1 ⟨H1,I1,q1⟩=>?_)
 cases c with
 | true=>exact ⟨H1,I1,q1⟩
 | false=>exact hb wh pins s1 σ H1 Q I1 q1
theorem zJH (ha:PT X a tA):PT X (.UnaryOp .Not a pos) (zNj tA):=by
 intro pins s σ H Q I h
 exact isTrue_not (ha pins s σ H (fun c H1=>Q (!c) H1) I h)
abbrev zMl (ta tb:TE):TE:=fun σ H Q=>ta σ H fun x H1=>∃ c,x=.bl c/\if c=true then tb σ H1 Q else Q (.bl false) H1
theorem zKM {op} {t:TE} (h:PE X a t):PE X (.BoolOp op [a] pos) t:=fun pins s σ H Q I hw=>BoolOp_one (h pins s σ H Q I hw)
theorem zJx (ha:PE X a ta) (hb:PE X (.BoolOp .And (b::rest) pos) tb):PE X (.BoolOp .And (a::b::rest) pos) (zMl ta tb):=by
 intro pins s σ H Q I h
 refine BoolOp_and (thn (ha pins s σ H _ I h) fun v s1 ⟨x,H1,I1,r1,q1⟩=>?_)
 obtain ⟨c,rfl,q1⟩:=q1
 cases r1
 refine wpAny_truthy_bool ?_
 cases c with
 | true=>exact hb pins s1 σ H1 Q I1 q1
 | false=>exact ⟨.bl false,H1,I1,rfl,q1⟩
abbrev tIf (t:TT) (ta tb:TE):TE:=fun σ H Q=>t σ H fun c H1=>if c=true then ta σ H1 Q else tb σ H1 Q
theorem zGa {c:Expr} (hc:PT X c tA) (ha:PE X a ta) (hb:PE X b tb):PE X (.IfExp c a b pos) (tIf tA ta tb):=by
 intro pins s σ H Q I h
 refine wpAny_IfExp (thn (hc pins s σ H _ I h) fun d s1 ⟨H1,I1,q1⟩=>?_)
 cases d with
 | true=>exact ha pins s1 σ H1 Q I1 q1
 | false=>exact hb pins s1 σ H1 Q I1 q1
end
end L2
namespace L2
open PySem PySem.Spec PyProof.Rows
def SqL (K:PySem.W.Frag) (H:Hp) (a:Addr) (xs:List V):Prop:=
 Rd H a (.lst xs)∨
  ∃ (o:Obj) (its:Array Value) (n:Nat),K.lookup a=some o/\o.cls=.type "list" /\ o.dict=none/\o.data=.seq its n/\its.size<=sizeLine/\cM xs its.toList
def SqT (K:PySem.W.Frag) (H:Hp) (a:Addr) (xs:List V):Prop:=
 Rd H a (.tup xs)∨
  ∃ (o:Obj) (its:Array Value) (n:Nat),K.lookup a=some o/\o.cls=.type "tuple" /\ o.data=.seq its n/\its.size<=sizeLine/\cM xs its.toList
def zNE:Value->Option V
 | .none=>some .non
 | .bool b=>some (.bl b)
 | .int i _=>some (.int i)
 | .str x _=>some (.str x)
 | .bytes b _=>some (.byt b)
 | .float b _=>some (.flt b)
 | .ref a=>some (.ref a)
 | .type n=>some (.ty n)
 | _=>none
theorem cQ.abs {x:V} {u:Value} (r:cQ x u):zNE u=some x:=by
 cases x with
 | non=>cases r;rfl
 | bl _=>cases r;rfl
 | int _=>obtain ⟨t,rfl⟩:=r;rfl
 | str _=>obtain ⟨t,rfl⟩:=r;rfl
 | byt _=>obtain ⟨t,rfl⟩:=r;rfl
 | flt _=>obtain ⟨t,rfl⟩:=r;rfl
 | ref _=>cases r;rfl
 | ty _=>cases r;rfl
theorem cQ.inj {x y:V} {u:Value} (r:cQ x u) (q:cQ y u):x=y:=Option.some.inj (r.abs.symm.trans q.abs)
theorem cM.inj:∀ {xs ys:List V} {us:List Value},cM xs us->cM ys us->xs=ys
 | _,_,_,.nil,.nil=>rfl
 | _,_,_,.cons r t,.cons r' t'=>by rw [r.inj r',cM.inj t t']
section
variable {X:Cx} {pins:List (Addr×Obj)} {σ:St} {H:Hp} {s:Shared} {a:Addr} {xs ys:List V}
theorem SqL.of {K:PySem.W.Frag} (h:H a=some (.lst xs)):SqL K H a xs:=.inl (.inl h)
theorem SqT.of {K:PySem.W.Frag} (h:H a=some (.tup xs)):SqT K H a xs:=.inl (.inl h)
theorem Inv.list (I:Inv X pins σ H s) (h:SqL X.K H a xs):∃ its:List Value,cM xs its/\PlainL s.heap a its.toArray/\xs.length<=sizeLine:=by
 rcases h with h | ⟨o,its,n,hk,hc,hd,hs,hz,r⟩
 ·obtain ⟨z,its,n,r,e⟩:=h.ok I.hok
  exact ⟨its,r,⟨_,n,e,rfl,rfl,rfl⟩,z⟩
 ·refine ⟨its.toList,r,⟨o,n,I.kIn a o hk,hc,hd,by simpa using hs⟩,?_⟩
  have e:=r.length
  simp only [Array.length_toList] at e
  omega
theorem Inv.tuple (I:Inv X pins σ H s) (h:SqT X.K H a xs):∃ its:List Value,cM xs its/\IsTup s.heap a its.toArray/\xs.length<=sizeLine:=by
 rcases h with h | ⟨o,its,n,hk,hc,hs,hz,r⟩
 ·obtain ⟨z,its,r,p⟩:=h.ok I.hok
  exact ⟨its,r,p,z⟩
 ·refine ⟨its.toList,r,⟨o,I.kIn a o hk,hc,n,by simpa using hs⟩,?_⟩
  have e:=r.length
  simp only [Array.length_toList] at e
  omega
theorem Inv.list_inj (I:Inv X pins σ H s) (h:SqL X.K H a xs) (h':SqL X.K H a ys):xs=ys:=by
 obtain ⟨its,r,⟨o,n,e,_,_,d⟩,_⟩:=I.list h
 obtain ⟨its',r',⟨o',n',e',_,_,d'⟩,_⟩:=I.list h'
 rw [e] at e';cases e'
 rw [d] at d'
 injection d' with d1 _
 have:its=its':=by simpa using congrArg Array.toList d1
 subst this
 exact r.inj r'
theorem Inv.tuple_inj (I:Inv X pins σ H s) (h:SqT X.K H a xs) (h':SqT X.K H a ys):xs=ys:=by
 obtain ⟨its,r,⟨o,e,_,n,d⟩,_⟩:=I.tuple h
 obtain ⟨its',r',⟨o',e',_,n',d'⟩,_⟩:=I.tuple h'
 rw [e] at e';cases e'
 rw [d] at d'
 injection d' with d1 _
 have:its=its':=by simpa using congrArg Array.toList d1
 subst this
 exact r.inj r'
end
section
variable {X:Cx} {pins:List (Addr×Obj)} {σ:St} {H:Hp} {s:Shared} {E:Value->Shared->Prop}
end
section
variable {X:Cx} {st:Stmt} {rest:List Stmt} {t u:TS} {e:Expr} {te:TE} {pos:Pos}
abbrev zMd:TS:=fun D σ H=>D.nx σ H
abbrev zLW (t u:TS):TS:=fun D σ H=>t { D with nx:=u D } σ H
theorem zEC:PSs X [] zMd:=fun _ _ σ H _ I h=>wpAny_execs_nil ⟨σ,H,I,h⟩
theorem pH (h1:PS X st t) (h2:PSs X rest u):PSs X (st::rest) (zLW t u):=by
 intro pins s σ H D I h
 refine wpAny_execs_cons (thn (h1 pins s σ H { D with nx:=u D } I h) fun f s1 q=>?_)
 cases f with
 | next=>
  obtain ⟨σ',H',I',q⟩:=q
  exact h2 pins s1 σ' H' D I' q
 | ret v=>exact q
 | brk=>exact q
 | cont=>exact q
theorem vB (h1:PS X st t):PSs X [st] t:=by
 intro pins s σ H D I h
 refine wpAny_execs_cons (thn (h1 pins s σ H D I h) fun f s1 q=>?_)
 cases f with
 | next=>exact wpAny_execs_nil q
 | ret v=>exact q
 | brk=>exact q
 | cont=>exact q
theorem Inv.quiet {pins:List (Addr×Obj)} {σ:St} {H:Hp} {s:Shared} (I:Inv X pins σ H s):interactive X.env=false:=by simp [interactive,I.ok.kind]
abbrev zMy (te:TE):TS:=fun D σ H=>te σ H fun _ H1=>D.nx σ H1
theorem zAR (he:PE X e te) (hs:swapsWith e none pos.line X.env=pure false:=by rfl):PS X (.Expr e pos) (zMy te):=by
 intro pins s σ H D I h
 exact wpAny_Expr_any (thn (he pins s σ H _ I h) fun v s1 ⟨x,H1,I1,r1,q1⟩=>⟨σ,H1,I1,q1⟩) I.quiet hs
abbrev zMV (te:TE):TS:=fun D σ H=>te σ H D.rt
theorem zBG (he:PE X e te):PS X (.Return (some e) pos) (zMV te):=by
 intro pins s σ H D I h
 exact wpAny_Return_some (thn (he pins s σ H _ I h) fun v s1 ⟨x,H1,I1,r1,q1⟩=>⟨x,σ,H1,I1,r1,q1⟩)
abbrev zNB (c:TT) (t u:TS):TS:=fun D σ H=>c σ H fun b H1=>if b=true then t D σ H1 else u D σ H1
theorem zKt {c:Expr} {a b:List Stmt} {tc:TT} (hc:PT X c tc) (ha:PSs X a t) (hb:PSs X b u):PS X (.If c a b pos) (zNB tc t u):=by
 intro pins s σ H D I h
 refine wpAny_If (thn (hc pins s σ H _ I h) fun d s1 ⟨H1,I1,q1⟩=>?_)
 cases d with
 | true=>exact ha pins s1 σ H1 D I1 q1
 | false=>exact hb pins s1 σ H1 D I1 q1
def zKR:TS:=fun _ _ _=>False
theorem zEb {sts:List Stmt}:PSs X sts zKR:=fun _ _ _ _ _ _ h=>h.elim
end
abbrev TG:=V->St->Hp->(St->Hp->Prop)->Prop
abbrev TGs:=List V->St->Hp->(St->Hp->Prop)->Prop
def PG (X:Cx) (target:Expr) (t:TG):Prop:=
 ∀ (pins:List (Addr×Obj)) (s:Shared) (σ:St) (H:Hp) (v:V) (u:Value) (Q:St->Hp->Prop),Inv X pins σ H s->cQ v u->t v σ H Q->
  wpAny (model X.prog X.w) X.A (assign target X.env u) (fun _ s'=>∃ σ' H',Inv X pins σ' H' s'/\Q σ' H') X.xe s
def PGs (X:Cx) (ts:List Expr) (t:TGs):Prop:=
 ∀ (pins:List (Addr×Obj)) (s:Shared) (σ:St) (H:Hp) (vs:List V) (us:List Value) (Q:St->Hp->Prop),Inv X pins σ H s->cM vs us->t vs σ H Q->
  wpAny (model X.prog X.w) X.A (assignInOrder ((assignEach ts X.env).map (·.2)) us) (fun _ s'=>∃ σ' H',Inv X pins σ' H' s'/\Q σ' H') X.xe s
abbrev zMj:=V->V->V->Hp->(Hp->Prop)->Prop
def zME (X:Cx) (t:zMj):Prop:=
 ∀ (pins:List (Addr×Obj)) (s:Shared) (σ:St) (H:Hp) (o i v:V) (ov iv u:Value) (Q:Hp->Prop),Inv X pins σ H s->cQ o ov->cQ i iv->cQ v u->t o i v H Q->
  wpAny (model X.prog X.w) X.A (setItem ov iv u) (fun _ s'=>∃ H',Inv X pins σ H' s'/\Q H') X.xe s
abbrev TIp:=V->V->Hp->VK->Prop
def PIp (X:Cx) (op:Operator) (t:TIp):Prop:=
 ∀ (pins:List (Addr×Obj)) (s:Shared) (σ:St) (H:Hp) (x y:V) (v u:Value) (Q:VK),Inv X pins σ H s->cQ x v->cQ y u->t x y H Q->
  wpAny (model X.prog X.w) X.A (inplaceOp op v u) (EP X pins σ Q) X.xe s
section
variable {X:Cx} {pos:Pos}
abbrev gName (i:Nat):TG:=fun v σ H Q=>Q (σ.set i (some v)) H
theorem wW {i:Nat} {x:Str} (hN:X.N.Nodup) (hi:X.N[i]?=some x) (hx:Loc X.env.scope x) (hf:X.fn x=true∨X.env.scope.names.lookup x=some .local:=by first | exact .inl rfl | exact .inr rfl | assumption):PG X (.Name x pos) (gName i):=by
 intro pins s σ H v u Q I r h
 exact wpAny_assign_Name (pI I hN hi hx r (fun s' I'=>⟨_,H,I',h⟩) hf)
def zGA:TGs:=fun vs σ H Q=>vs=[]/\Q σ H
def sT (t:TG) (u:TGs):TGs:=fun vs σ H Q=>∃ v r,vs=v::r/\t v σ H fun σ' H'=>u r σ' H' Q
theorem zEs:PGs X [] zGA:=by
 intro pins s σ H vs us Q I r h
 obtain ⟨e,h⟩:=h
 subst e
 cases r
 exact assignInOrder_nil ⟨σ,H,I,h⟩
theorem wV {e:Expr} {es:List Expr} {t:TG} {u:TGs} (h1:PG X e t) (h2:PGs X es u)
  (hs:(assignEach (e::es) X.env).map (·.2)=assign e X.env::(assignEach es X.env).map (·.2):=by rfl):PGs X (e::es) (sT t u):=by
 intro pins s σ H vs us Q I r h
 obtain ⟨v,vr,e1,h⟩:=h
 subst e1
 cases r with
 | cons r rr=>
  rw [hs]
  refine assignInOrder_cons (thn (h1 pins s σ H _ _ _ I r h) fun _ s1 ⟨σ1,H1,I1,q1⟩=>?_)
  exact h2 pins s1 σ1 H1 _ _ Q I1 rr q1
def zGW (K:PySem.W.Frag) (n:Nat) (t:TGs):TG:=fun v σ H Q=>∃ a xs,v=.ref a/\SqT K H a xs/\xs.length=n/\t xs σ H Q
theorem zGU {es:List Expr} {k:Nat} {t:TGs} {n:Nat} (hc:X.calm=true) (h:PGs X es t)
  (hn:(assignEach es X.env).length=n:=by rfl) (hst:(assignEach es X.env).findIdx? (·.1)=none:=by rfl):PG X (.Tuple es k pos) (zGW X.K n t):=by
 intro pins s σ H v u Q I r hw
 obtain ⟨a,xs,e1,hq,hl,hw⟩:=hw
 subst e1
 cases r
 obtain ⟨its,rv,ht,hz⟩:=I.tuple hq
 refine assign_Tuple_tuple (I.ok.hd hc) ht (by simp [hn,<-hl,rv.length]) hst fun h' hx=>?_
 have I1:Inv X pins σ H { s with heap:=h' }:=I.kept (t':=s.toks) fun b o e=>hx b o (Nat.ne_of_lt (Heap.lt_size e)) e
 exact h pins _ σ H xs _ Q I1 (by simpa using rv) hw
def zNF (to ti:TE) (t:zMj):TG:=fun v σ H Q=>to σ H fun o H1=>ti σ H1 fun i H2=>t o i v H2 fun H3=>Q σ H3
theorem zKW {o i:Expr} {to ti:TE} {t:zMj} (ho:PE X o to) (hi:PE X i ti) (hs:zME X t)
  (ha:∀ v,assign (.Subscript o i pos) X.env v=(do
   let ov <-holding [v] (eval o X.env)
   let iv <-holding [v,ov] (eval i X.env)
   standAt pos
   holding [v,ov,iv] (setItem ov iv v)
   release [v,ov,iv] []):=by intro _;rfl):PG X (.Subscript o i pos) (zNF to ti t):=by
 intro pins s σ H v u Q I r h
 rw [ha]
 refine wpAny_bind (wpAny_holding (thn (ho pins s σ H _ I h) fun ov s1 ⟨x,H1,I1,r1,q1⟩=>?_))
 refine wpAny_bind (wpAny_holding (thn (hi pins s1 σ H1 _ I1 q1) fun iv s2 ⟨y,H2,I2,r2,q2⟩=>?_))
 refine wpAny_bind (wpAny_standAt (wpAny_bind (wpAny_holding (thn (hs pins s2 σ H2 x y v ov iv u _ I2 r1 r2 r q2) fun _ s3 ⟨H3,I3,q3⟩=>?_))))
 exact wpAny_release ⟨σ,H3,I3,q3⟩
abbrev zMs (te:TE) (g:TG):TS:=fun D σ H=>te σ H fun x H1=>g x σ H1 D.nx
theorem zKb {tg e:Expr} {te:TE} {g:TG} (he:PE X e te) (hg:PG X tg g) (hs:swapsWithSole [tg] e pos.line X.env=pure false:=by rfl) (hw:swappedStores [tg] e X.env=pure none:=by rfl)
  (h1:(assignEach [tg] X.env).map (·.2)=[assign tg X.env]:=by rfl):PS X (.Assign [tg] e pos) (zMs te g):=by
 intro pins s σ H D I h
 refine wpAny_Assign_stores (thn (he pins s σ H _ I h) fun v s1 ⟨x,H1,I1,r1,q1⟩=>?_) hs hw
 rw [h1]
 exact thn (hg pins s1 σ H1 x v _ I1 r1 q1) fun _ s2 q=>q
theorem zHi {i:Nat} {x:Str} {e:Expr} {te:TE} {pos':Pos} (hN:X.N.Nodup) (hi:X.N[i]?=some x) (hx:Loc X.env.scope x) (he:PE X e te) (hs:swapsWith e (some (.Name x pos')) pos.line X.env=pure false:=by rfl) (hf:X.fn x=true∨X.env.scope.names.lookup x=some .local:=by first | exact .inl rfl | exact .inr rfl | assumption):
  PS X (.Assign [.Name x pos'] e pos) (zMs te (gName i)):=by
 intro pins s σ H D I h
 refine wpAny_Assign_Name (thn (he pins s σ H _ I h) fun v s1 ⟨y,H1,I1,r1,q1⟩=>?_) hs
 exact pI I1 hN hi hx r1 (fun s2 I2=>⟨_,H1,I2,q1⟩) hf
abbrev zNo (i:Nat) (te:TE) (ti:TIp):TS:=fun D σ H=>∃ x,σ[i]?=some (some x)/\te σ H fun y H1=>ti x y H1 fun z H2=>D.nx (σ.set i (some z)) H2
theorem zKX {i:Nat} {x:Str} {e:Expr} {te:TE} {op:Operator} {ti:TIp} {pos':Pos} (hN:X.N.Nodup) (hi:X.N[i]?=some x) (hx:Loc X.env.scope x) (he:PE X e te) (ho:PIp X op ti) (hf:X.fn x=true∨X.env.scope.names.lookup x=some .local:=by first | exact .inl rfl | exact .inr rfl | assumption):
  PS X (.AugAssign (.Name x pos') op e pos) (zNo i te ti):=by
 intro pins s σ H D I h
 obtain ⟨v,e1,h⟩:=h
 obtain ⟨m,hn,hl⟩:=I.loc
 have vis:Vis X.env.scope x:=by rcases hx with k | k;exact .inl k;exact .inr (.inl k)
 obtain ⟨u,r,l⟩:=hl i x v hi e1 vis
 refine wpAny_AugAssign_Name ?_
 have go:wpAny (model X.prog X.w) X.A (eval e X.env) (fun w s₂=>wpAny (model X.prog X.w) X.A (inplaceOp op u w) (fun r s₃=>wpAny (model X.prog X.w) X.A (storeName X.env x r) (fun _=>SP X pins D .next) X.xe s₃) X.xe s₂) X.xe s:=by
  refine thn (he pins s σ H _ I h) fun w s1 ⟨y,H1,I1,r1,q1⟩=>?_
  refine thn (ho pins s1 σ H1 v y u w _ I1 r r1 q1) fun z s2 ⟨zv,H2,I2,r2,q2⟩=>?_
  exact pI I2 hN hi hx r2 (fun s3 I3=>⟨_,H2,I3,q2⟩) hf
 rcases l with ⟨hk,hm⟩ | ⟨hk,c,hc,hcell⟩
 ·exact wpAny_loadName_local I.ok.kind hk hn hm go
 ·rcases hk with hk | hk
  ·exact wpAny_loadName_cell I.ok.kind hk hc hcell go
  ·rcases hx with k | k
   ·have:X.env.scope.names.lookup x=some .free:=hk
    rw [k] at this;cases this
   ·have:X.env.scope.names.lookup x=some .free:=hk
    rw [k] at this;cases this
def ipI (f:Int->Int->Int):TIp:=fun x y H Q=>∃ i j,x=.int i/\y=.int j/\Q (.int (f i j)) H
theorem zGQ:PIp X .Add (ipI fun i j=>i+j):=by
 intro pins s σ H x y v u Q I r1 r2 h
 obtain ⟨i,j,e1,e2,q⟩:=h
 subst e1;subst e2
 obtain ⟨t,rfl⟩:=r1
 obtain ⟨t',rfl⟩:=r2
 exact iadd_int ⟨.int _,H,I.tok _,⟨_,rfl⟩,q⟩
theorem zGX:PIp X .Sub (ipI fun i j=>i - j):=by
 intro pins s σ H x y v u Q I r1 r2 h
 obtain ⟨i,j,e1,e2,q⟩:=h
 subst e1;subst e2
 obtain ⟨t,rfl⟩:=r1
 obtain ⟨t',rfl⟩:=r2
 exact isub_int ⟨.int _,H,I.tok _,⟨_,rfl⟩,q⟩
end
section
variable {X:Cx} {pos:Pos}
def zLg (c:TT) (tb:TS):TS:=fun D σ H=>∃ W:Nat->St->Hp->Prop,(∃ m,W m σ H)/\∀ m σ H,W m σ H->
 c σ H fun b H1=>if b=true then ∃ N:St->Hp->Prop,(∀ σ' H',N σ' H'->∃ m',m' < m/\W m' σ' H')/\tb { D with nx:=N,ct:=N,bk:=D.nx } σ H1 else D.nx σ H1
theorem zFM {c:Expr} {body:List Stmt} {tc:TT} {tb:TS} (hp:PassesOwn (model X.prog X.w) X.A X.env X.xe) (hc:PT X c tc) (hb:PSs X body tb):PS X (.While c body [] pos) (zLg tc tb):=by
 intro pins s σ H D I h
 obtain ⟨W,⟨m0,w0⟩,turn⟩:=h
 refine wpAny_While (codeAny_whileLoop (fun n s'=>∃ σ' H',Inv X pins σ' H' s'/\W n σ' H') ?_ m0 ⟨σ,H,I,w0⟩)
 rintro n s1 ⟨σ1,H1,I1,w1⟩
 refine wpAny_passesOwn hp (thn (hc pins s1 σ1 H1 _ I1 (turn n σ1 H1 w1)) fun b s2 ⟨H2,I2,q2⟩=>?_)
 cases b with
 | true=>
  obtain ⟨N,hN,q2⟩:=q2
  rw [if_pos rfl]
  refine wpAny_passesOwn hp (thn (hb pins s2 σ1 H2 _ I2 q2) fun f s3 q3=>?_)
  cases f with
  | next=>
   obtain ⟨σ3,H3,I3,n3⟩:=q3
   obtain ⟨m',hm,w3⟩:=hN σ3 H3 n3
   exact ⟨m',hm,σ3,H3,I3,w3⟩
  | cont=>
   obtain ⟨σ3,H3,I3,n3⟩:=q3
   obtain ⟨m',hm,w3⟩:=hN σ3 H3 n3
   exact ⟨m',hm,σ3,H3,I3,w3⟩
  | brk=>exact q3
  | ret v=>exact q3
 | false=>
  rw [if_neg Bool.false_ne_true]
  exact wpAny_execs_nil ⟨σ1,H2,I2,q2⟩
end
structure It where
 go:Nat->Hp->Prop
 yld:Nat->Hp->V->Hp->Prop
 stop:Nat->Hp->Prop
def pA (X:Cx) (pins:List (Addr×Obj)) (H:Hp) (b:Addr):Prop:=
 H b=none/\b≠X.env.locals/\b∉X.fs/\(b∈X.ex∨X.s₀.heap.objs.size<=b)/\(∀ x c,X.env.cells.lookup x=some c->c≠b)/\∀ p∈X.pn++pins,p.1≠b
theorem Inv.fpOk {X:Cx} {pins:List (Addr×Obj)} {σ:St} {H H':Hp} {s:Shared} {b:Addr} (I:Inv X pins σ H s) (hb:s.heap.objs.size<=b) (hn:H' b=none):pA X pins H' b:=by
 refine ⟨hn,Nat.ne_of_gt (Nat.lt_of_lt_of_le I.lt hb),I.nofs hb,.inr (Nat.le_trans I.sz hb),fun x c e z=>?_,fun p hp z=>?_⟩
 ·obtain ⟨v,q⟩:=I.cell x c e
  exact absurd (Nat.lt_of_lt_of_le q.lt (by rw [z];exact hb)) (Nat.lt_irrefl _)
 ·exact absurd (Nat.lt_of_lt_of_le (Heap.lt_size (I.pin p hp).1) (by rw [z];exact hb)) (Nat.lt_irrefl _)
structure Turn (P:Program) (w:World) (K:PySem.W.Frag) (tg:Expr) (J:It) (fp:List Addr) (it:Addr) (tn:Nat->Heap->Prop):Prop where
 mem:it∈fp
 obj:∀ i h,tn i h->∀ b∈fp,∃ o,h.get? b=some o/\∀ v,o.data≠.cell v
 keep:∀ i h h',tn i h->(∀ b∈fp,∀ o,h.get? b=some o->h'.get? b=some o)->tn i h'
 item:∀ (X:Cx),X.prog=P->X.w=w->X.K=K->X.calm=true->∀ (i:Nat) (pins:List (Addr×Obj)) (s:Shared) (σ:St) (H:Hp) (E:Value->Shared->Prop),Inv X pins σ H s->(∀ b∈fp,pA X pins H b)->tn i s.heap->J.go i H->
  wpAny (model P w) X.A (pyNext (.ref it)) (fun r s1=>∃ u,r=some u/\
   wpAny (model P w) X.A (letOwnedTupleGo tg (.ref it) u) (fun _ s2=>∃ x H',Inv X pins σ H' s2/\cQ x u/\J.yld i H x H'/\tn (i+1) s2.heap/\∀ b∈fp,H' b=none) E s1) E s
 done:∀ (X:Cx),X.prog=P->X.w=w->X.K=K->X.calm=true->∀ (i:Nat) (pins:List (Addr×Obj)) (s:Shared) (σ:St) (H:Hp) (E:Value->Shared->Prop),Inv X pins σ H s->(∀ b∈fp,pA X pins H b)->tn i s.heap->J.stop i H->
  wpAny (model P w) X.A (pyNext (.ref it)) (fun r s1=>r=none/\Inv X pins σ H s1) E s
 self:∀ (A:Around) (i:Nat) (s:Shared) (Q:Value->Shared->Prop) (E:Value->Shared->Prop),tn i s.heap->Q (.ref it) s->wpAny (model P w) A (pyIter (.ref it)) Q E s
abbrev TI:=St->Hp->(It->Hp->Prop)->Prop
def PIE (X:Cx) (pins:List (Addr×Obj)) (σ:St) (tg:Expr) (R:It->Hp->Prop) (itv:Value) (s2:Shared):Prop:=
 ∃ (it:Addr) (fp:List Addr) (tn:Nat->Heap->Prop) (J:It) (H':Hp),itv=.ref it/\Inv X pins σ H' s2/\Turn X.prog X.w X.K tg J fp it tn/\tn 0 s2.heap/\(∀ b∈fp,pA X pins H' b)/\R J H'
def PI (X:Cx) (tg iter:Expr) (wi:TI):Prop:=
 ∀ (pins:List (Addr×Obj)) (s:Shared) (σ:St) (H:Hp) (R:It->Hp->Prop),Inv X pins σ H s->wi σ H R->
  wpAny (model X.prog X.w) X.A (eval iter X.env) (fun v s1=>wpAny (model X.prog X.w) X.A (pyIter v) (PIE X pins σ tg R) X.xe s1) X.xe s
theorem zFu {M:Model} {A:Around} {E:Value->Shared->Prop} {s:Shared} {tg:Expr} {it:Addr} {u:Value} {o:Obj} {n:String} {vs:Array Value} {Q:Unit->Shared->Prop} (ho:s.heap.get? it=some o) (hc:o.cls=.type n) (hd:o.data=.fields vs)
    (hn:["enumerate", "zip", "dict_itemiterator", "dict_reverseitemiterator", "odict_iterator", "itertools.zip_longest", "itertools.pairwise"].contains n=false) (hQ:Q () s):wpAny M A (letOwnedTupleGo tg (.ref it) u) Q E s:=by
  unfold letOwnedTupleGo
  cases tg<;>first
    | exact wpAny_pure hQ
    | (cases u<;>first
        | exact wpAny_pure hQ
        | (refine wpAny_bind (wpAny_load ho ?_)
           rw [hc,hd]
           show wpAny M A (if (["enumerate", "zip", "dict_itemiterator", "dict_reverseitemiterator", "odict_iterator", "itertools.zip_longest", "itertools.pairwise"].contains n && vs[0]?==some (rawInt _))=true then _ else _) Q E s
           rw [if_neg (by intro h;rw [hn,Bool.false_and] at h;cases h)]
           exact wpAny_pure hQ))
def Itl (K:PySem.W.Frag) (a:Addr):It:=
 ⟨fun i H=>∃ xs x,SqL K H a xs/\xs[i]?=some x,fun i H x H'=>H'=H/\∀ xs,SqL K H a xs->xs[i]?=some x,fun i H=>∃ xs,SqL K H a xs/\xs.length<=i⟩
def Itt (K:PySem.W.Frag) (a:Addr):It:=
 ⟨fun i H=>∃ xs x,SqT K H a xs/\xs[i]?=some x,fun i H x H'=>H'=H/\∀ xs,SqT K H a xs->xs[i]?=some x,fun i H=>∃ xs,SqT K H a xs/\xs.length<=i⟩
def Itr (lo:Int) (n:Nat):It:=⟨fun i _=>i < n,fun i H x H'=>H'=H/\x=.int (lo+i),fun i _=>n<=i⟩
theorem zY {P:Program} {w:World} {K:PySem.W.Frag} {tg:Expr} (a it:Addr):Turn P w K tg (Itl K a) [it] it (fun i h=>h.IsListIter it a i) where
 mem:=by simp
 obj:=fun i h st b hb=>by
  have e:b=it:=by simpa using hb
  subst e
  obtain ⟨o,e,c,d⟩:=st
  exact ⟨o,e,fun v z=>by rw [d] at z;cases z⟩
 keep:=fun i h h' st k=>st.at fun o e=>k it (by simp) o e
 item:=by
  intro X hP hw hK hc i pins s σ H E I hf st hg
  subst hP hw hK
  obtain ⟨xs,x,hq,hx⟩:=hg
  obtain ⟨its,rv,p,hz⟩:=I.list hq
  obtain ⟨u,hu,ru⟩:=rv.get hx
  obtain ⟨f0,f1,f2,f3,f4,f5⟩:=hf it (by simp)
  refine wpAny_pyNext_list_item st p.isList (x:=u) (by simpa using hu) fun h' st' sb=>?_
  have I1:Inv X pins σ H { s with heap:=h' }:=I.turned (t':=s.toks) (fun b o hb e=>(sb.2 b hb).trans e) f0 f1 f3 f4 f5
  obtain ⟨o,e,c,d⟩:=id st'
  exact ⟨u,rfl,zFu (s:={ s with heap:=h' }) e c d (by decide) ⟨x,H,I1,ru,⟨rfl,fun ys hy=>by rw [I.list_inj hy hq];exact hx⟩,st',fun b hb=>(hf b hb).1⟩⟩
 done:=by
  intro X hP hw hK hc i pins s σ H E I hf st hg
  subst hP hw hK
  obtain ⟨xs,hq,hx⟩:=hg
  obtain ⟨its,rv,p,hz⟩:=I.list hq
  obtain ⟨f0,f1,f2,f3,f4,f5⟩:=hf it (by simp)
  have hl:=rv.length
  exact wpAny_pyNext_list_end (I.ok.hd hc) st p.isList (by simp;omega) fun h' eb=>⟨rfl,I.turned (t':=s.toks) (fun b o hb e=>eb b o hb e) f0 f1 f3 f4 f5⟩
 self:=fun _ _ _ _ _ st h=>wpAny_pyIter_listiter st h
theorem zCp {P:Program} {w:World} {K:PySem.W.Frag} {tg:Expr} (a it:Addr):Turn P w K tg (Itt K a) [it] it (fun i h=>h.IsTupleIter it a i) where
 mem:=by simp
 obj:=fun i h st b hb=>by
  have e:b=it:=by simpa using hb
  subst e
  obtain ⟨o,e,c,d⟩:=st
  exact ⟨o,e,fun v z=>by rw [d] at z;cases z⟩
 keep:=fun i h h' st k=>st.at fun o e=>k it (by simp) o e
 item:=by
  intro X hP hw hK hc i pins s σ H E I hf st hg
  subst hP hw hK
  obtain ⟨xs,x,hq,hx⟩:=hg
  obtain ⟨its,rv,p,hz⟩:=I.tuple hq
  obtain ⟨u,hu,ru⟩:=rv.get hx
  obtain ⟨f0,f1,f2,f3,f4,f5⟩:=hf it (by simp)
  refine wpAny_pyNext_tuple_item st (show s.heap.IsTuple a its.toArray from p) (x:=u) (by simpa using hu) fun h' st' sb=>?_
  have I1:Inv X pins σ H { s with heap:=h' }:=I.turned (t':=s.toks) (fun b o hb e=>(sb.2 b hb).trans e) f0 f1 f3 f4 f5
  obtain ⟨o,e,c,d⟩:=id st'
  exact ⟨u,rfl,zFu (s:={ s with heap:=h' }) e c d (by decide) ⟨x,H,I1,ru,⟨rfl,fun ys hy=>by rw [I.tuple_inj hy hq];exact hx⟩,st',fun b hb=>(hf b hb).1⟩⟩
 done:=by
  intro X hP hw hK hc i pins s σ H E I hf st hg
  subst hP hw hK
  obtain ⟨xs,hq,hx⟩:=hg
  obtain ⟨its,rv,p,hz⟩:=I.tuple hq
  obtain ⟨f0,f1,f2,f3,f4,f5⟩:=hf it (by simp)
  have hl:=rv.length
  exact wpAny_pyNext_tuple_end (I.ok.hd hc) st (show s.heap.IsTuple a its.toArray from p) (by simp;omega) fun h' eb=>⟨rfl,I.turned (t':=s.toks) (fun b o hb e=>eb b o hb e) f0 f1 f3 f4 f5⟩
 self:=fun _ _ _ _ _ st h=>wpAny_pyIter_tupleiter st h
theorem zCE {P:Program} {w:World} {K:PySem.W.Frag} {tg:Expr} (it:Addr) (lo:Int) (n:Nat):Turn P w K tg (Itr lo n) [it] it (fun i h=>IsRangeIter h it (lo+(i:Nat) * 1) ((n:Int) - (i:Nat)) 1) where
 mem:=by simp
 obj:=fun i h st b hb=>by
  have e:b=it:=by simpa using hb
  subst e
  exact ⟨_,st,fun v z=>by
   have z':Data.fields _=Data.cell v:=z
   cases z'⟩
 keep:=fun i h h' st k=>k it (by simp) _ st
 item:=by
  intro X hP hw hK hc i pins s σ H E I hf st hg
  subst hP hw hK
  obtain ⟨f0,f1,f2,f3,f4,f5⟩:=hf it (by simp)
  have W:=Walks.range (prog:=X.prog) (w:=X.w) (I.ok.hd hc) it lo 1 n
  refine W.item i s _ _ hg st fun v h' tk hv st' kk=>?_
  obtain ⟨t,rfl⟩:=hv
  have I1:Inv X pins σ H { s with heap:=h',toks:=tk }:=I.turned (fun b o hb e=>kk b o (by simpa using hb) e) f0 f1 f3 f4 f5
  refine ⟨_,rfl,zFu (s:={ s with heap:=h',toks:=tk }) (n := "range_iterator") st' rfl rfl (by decide) ⟨.int (lo+i),H,I1,⟨t,?_⟩,⟨rfl,rfl⟩,st',fun b hb=>(hf b hb).1⟩⟩
  rw [Int.mul_one]
 done:=by
  intro X hP hw hK hc i pins s σ H E I hf st hg
  subst hP hw hK
  obtain ⟨f0,f1,f2,f3,f4,f5⟩:=hf it (by simp)
  exact wpAny_pyNext_range_end (I.ok.hd hc) st (by have:n<=i:=hg;omega) fun h' eb=>⟨rfl,I.turned (t':=s.toks) (fun b o hb e=>eb b o hb e) f0 f1 f3 f4 f5⟩
 self:=fun _ _ _ _ _ st h=>wpAny_pyIter_rangeiter st h
end L2
namespace L2
open PySem PySem.Spec PyProof.Rows
section
variable {X:Cx} {tg:Expr}
abbrev zMg (K:PySem.W.Frag) (tl:TE):TI:=fun σ H R=>tl σ H fun x H1=>∃ a,x=.ref a/\(∃ xs,SqL K H1 a xs)/\R (Itl K a) H1
theorem zHN {l:Expr} {tl:TE} (hl:PE X l tl):PI X tg l (zMg X.K tl):=by
 intro pins s σ H R I h
 refine thn (hl pins s σ H _ I h) fun v s1 ⟨x,H1,I1,r1,q1⟩=>?_
 obtain ⟨a,e,⟨xs,hq⟩,q⟩:=q1
 subst e
 cases r1
 obtain ⟨its,rv,p,hz⟩:=I1.list hq
 refine wpAny_pyIter_list p.isList ?_
 refine ⟨s1.heap.objs.size,[s1.heap.objs.size],_,_,H1,rfl,I1.kept (t':=s1.toks) fun b o e=>Heap.get?_push_of_some _ e,zY a _,⟨_,Heap.get?_push_size _ rfl,rfl,rfl⟩,fun b hb=>?_,q⟩
 have e:b=s1.heap.objs.size:=by simpa using hb
 subst e
 exact I1.fpOk (Nat.le_refl _) (I1.hok.fresh (Nat.le_refl _))
theorem zBw {pins:List (Addr×Obj)} {σ:St} {H:Hp} {s:Shared} {R:It->Hp->Prop} {E:Value->Shared->Prop} {lo hi:Int} {t u v:Tok} {tk:Nat} (I:Inv X pins σ H s) (h1:-(2^62)<=lo) (h2:lo < 2^62) (h3:-(2^62)<=hi) (h4:hi < 2^62)
  (q:R (Itr lo (hi - lo).toNat) H):wpAny (model X.prog X.w) X.A (pyIter (.ref s.heap.objs.size)) (PIE X pins σ tg R) E { s with heap:=s.heap.push { cls:=.type "range", data:=.fields #[.int lo t,.int hi u,.int 1 v] },toks:=tk }:=by
 refine wpAny_pyIter_range (IsRange.new ..) (small_one h1 h2 h3 h4) ?_
 have I1:Inv X pins σ H { s with heap:=s.heap.push { cls:=.type "range", data:=.fields #[.int lo t,.int hi u,.int 1 v] },toks:=tk }:=I.kept fun b o e=>Heap.get?_push_of_some _ e
 refine ⟨(s.heap.push { cls:=.type "range", data:=.fields #[.int lo t,.int hi u,.int 1 v] }).objs.size,[(s.heap.push { cls:=.type "range", data:=.fields #[.int lo t,.int hi u,.int 1 v] }).objs.size],_,_,H,rfl,
  I1.kept (t':=tk) fun b o e=>Heap.get?_push_of_some _ e,zCE _ lo (hi - lo).toNat,?_,fun b hb=>?_,q⟩
 ·have e1:lo+((0:Nat):Int) * 1=lo:=by simp
  have e2:(((hi - lo).toNat:Nat):Int) - ((0:Nat):Int)=Builtin.Range.rangeSize lo hi 1:=by rw [rangeSize_one];split<;>omega
  show IsRangeIter _ _ (lo+((0:Nat):Int) * 1) ((((hi - lo).toNat:Nat):Int) - ((0:Nat):Int)) 1
  rw [e1,e2]
  exact Heap.get?_push_size _ rfl
 ·have e:b=(s.heap.push { cls:=.type "range", data:=.fields #[.int lo t,.int hi u,.int 1 v] }).objs.size:=by simpa using hb
  subst e
  exact I1.fpOk (Nat.le_refl _) (I1.hok.fresh (Nat.le_refl _))
abbrev zDV (ta:TA):TI:=fun σ H R=>ta σ H fun vs H1=>∃ j:Int,vs=[.int j]/\-(2^62)<=j/\j < 2^62/\R (Itr 0 j.toNat) H1
abbrev zAK (ta:TA):TI:=fun σ H R=>ta σ H fun vs H1=>∃ i j:Int,vs=[.int i,.int j]/\(-(2^62)<=i/\i < 2^62/\-(2^62)<=j/\j < 2^62)/\R (Itr i (j - i).toNat) H1
theorem zDS {a:Expr} {ta:TA} {p pos:Pos} (hg:Gl X "range") (hm:X.mg "range" = none) (ha:PA X [a] ta) (hs:starEach [a] X.env=[(false,eval a X.env)]:=by rfl):PI X tg (.Call (.Name "range" p) [a] [] pos) (zDV ta):=by
 intro pins s σ H R I h
 refine Call_ (kF I hg hm boot_range (PyProof.Rows.callWith_type1 (thn (ha pos pins s σ H _ I h) fun us s1 ⟨vs,H1,I1,r1,q1⟩=>?_) hs rfl))
 obtain ⟨j,e,q1,q2,q⟩:=q1
 subst e
 cases r1 with
 | cons r rr=>
  cases rr
  obtain ⟨t,rfl⟩:=r
  exact call_range_1 (zBw I1 (by omega) (by omega) q1 q2 (by simpa using q))
theorem zEL {a b:Expr} {ta:TA} {p pos:Pos} (hg:Gl X "range") (hm:X.mg "range" = none) (ha:PA X [a,b] ta) (hs:starEach [a,b] X.env=[(false,eval a X.env),(false,eval b X.env)]:=by rfl) (hs2:starEach [b] X.env=[(false,eval b X.env)]:=by rfl):
  PI X tg (.Call (.Name "range" p) [a,b] [] pos) (zAK ta):=by
 intro pins s σ H R I h
 refine Call_ (kF I hg hm boot_range (PyProof.Rows.callWith_type1 (thn (ha pos pins s σ H _ I h) fun us s1 ⟨vs,H1,I1,r1,q1⟩=>?_) (by rw [hs,hs2]) (by rw [hs2];rfl)))
 obtain ⟨i,j,e,⟨q1,q2,q3,q4⟩,q⟩:=q1
 subst e
 cases r1 with
 | cons r rr=>
  cases rr with
  | cons r' rr=>
   cases rr
   obtain ⟨t,rfl⟩:=r
   obtain ⟨t',rfl⟩:=r'
   exact call_range_2 (zBw I1 q1 q2 q3 q4 q)
abbrev zMT (wi:TI) (g:TG) (tb:TS):TS:=fun D σ H=>wi σ H fun J H1=>∃ W:Nat->Nat->St->Hp->Prop,(∃ m,W 0 m σ H1)/\∀ i m σ H,W i m σ H->
 (J.stop i H/\D.nx σ H)∨(J.go i H/\∃ N:St->Hp->Prop,(∀ σ' H',N σ' H'->∃ m',m' < m/\W (i+1) m' σ' H')/\∀ x H',J.yld i H x H'->g x σ H' fun σ2 H2=>tb { D with nx:=N,ct:=N,bk:=D.nx } σ2 H2)
def rK (fp:List Addr) (h:Heap):List (Addr×Obj):=fp.filterMap fun b=>(h.get? b).map fun o=>(b,o)
theorem eD {fp:List Addr} {h:Heap} {b:Addr} {o:Obj} (hb:b∈fp) (e:h.get? b=some o):(b,o)∈rK fp h:=List.mem_filterMap.mpr ⟨b,hb,by rw [e];rfl⟩
theorem zDa {fp:List Addr} {h:Heap} {p:Addr×Obj} (hp:p∈rK fp h):p.1∈fp/\h.get? p.1=some p.2:=by
 obtain ⟨b,hb,e⟩:=List.mem_filterMap.mp hp
 cases q:h.get? b with
 | none=>rw [q] at e;cases e
 | some o=>
  rw [q] at e
  have e':(b,o)=p:=Option.some.inj e
  subst e'
  exact ⟨hb,q⟩
theorem Inv.pinned {pins:List (Addr×Obj)} {σ:St} {H:Hp} {s:Shared} {fp:List Addr} (I:Inv X pins σ H s) (hf:∀ b∈fp,pA X pins H b) (ho:∀ b∈fp,∃ o,s.heap.get? b=some o/\∀ v,o.data≠.cell v):Inv X (pins++rK fp s.heap) σ H s:=
 I.pins_of fun p hp=>(List.mem_append.mp hp).elim (fun z=>I.pin p (List.mem_append_right _ z)) fun z=>by
  obtain ⟨hb,e⟩:=zDa z
  obtain ⟨f0,f1,f2,_⟩:=hf p.1 hb
  obtain ⟨o,e',d⟩:=ho p.1 hb
  rw [e] at e';cases e'
  exact ⟨e,f0,f1,f2,d⟩
theorem Inv.unpinned {pins pl:List (Addr×Obj)} {σ:St} {H:Hp} {s:Shared} (I:Inv X (pins++pl) σ H s):Inv X pins σ H s:=I.pins_of fun p hp=>I.pin p (List.mem_append_right _ (List.mem_append_left _ hp))
theorem zEH {iter:Expr} {body:List Stmt} {wi:TI} {g:TG} {tb:TS} {pos:Pos} (hp:PassesOwn (model X.prog X.w) X.A X.env X.xe) (hc:X.calm=true) (hi:PI X tg iter wi) (hg:PG X tg g) (hb:PSs X body tb)
  (hs:∀ x,foldedSetIterable iter X.env x=pure x:=by intro _;rfl):PS X (.For tg iter body [] pos) (zMT wi g tb):=by
 intro pins s σ H D I h
 refine wpAny_For (thn (hi pins s σ H _ I h) fun v s1 h1=>thn h1 fun itv s2 h2=>?_) hs
 obtain ⟨it,fp,tn,J,H2,e,I2,T,st2,f2,W,⟨m0,w0⟩,turn⟩:=h2
 subst e
 have stat:∀ {H':Hp},(∀ b∈fp,H' b=none)->∀ b∈fp,pA X pins H' b:=fun hn b hb=>⟨hn b hb,(f2 b hb).2⟩
 refine codeAny_forLoop_any (fun n s'=>∃ i σ' H',Inv X pins σ' H' s'/\tn i s'.heap/\(∀ b∈fp,H' b=none)/\W i n σ' H') ?_ m0 ⟨0,σ,H2,I2,st2,fun b hb=>(f2 b hb).1,w0⟩
 rintro n s3 ⟨i,σ3,H3,I3,st3,fr3,w3⟩
 rcases turn i n σ3 H3 w3 with ⟨stop,qn⟩ | ⟨go,N,hN,step⟩
 ·refine wpAny_passesOwn hp (thn (T.done X rfl rfl rfl hc i pins s3 σ3 H3 X.xe I3 (stat fr3) st3 stop) fun r s4 ⟨hr,I4⟩=>?_)
  subst hr
  exact wpAny_execs_nil ⟨σ3,H3,I4,qn⟩
 ·refine wpAny_passesOwn hp (thn (T.item X rfl rfl rfl hc i pins s3 σ3 H3 X.xe I3 (stat fr3) st3 go) fun r s4 ⟨u,hr,h4⟩=>?_)
  subst hr
  refine wpAny_passesOwn hp (thn h4 fun _ s5 ⟨x,H5,I5,r5,y5,st5,fr5⟩=>?_)
  have I5':=I5.pinned (stat fr5) (T.obj _ _ st5)
  refine wpAny_passesOwn hp (thn (hg _ s5 σ3 H5 x u _ I5' r5 (step x H5 y5)) fun _ s6 ⟨σ6,H6,I6,q6⟩=>?_)
  refine wpAny_passesOwn hp (thn (hb _ s6 σ6 H6 _ I6 q6) fun f s7 q7=>?_)
  have again:∀ {σ7:St} {H7:Hp},Inv X (pins++rK fp s5.heap) σ7 H7 s7->N σ7 H7->∃ m,m < n/\∃ i σ' H',Inv X pins σ' H' s7/\tn i s7.heap/\(∀ b∈fp,H' b=none)/\W i m σ' H':=fun {σ7 H7} I7 n7=>by
   obtain ⟨m',hm,w7⟩:=hN σ7 H7 n7
   refine ⟨m',hm,i+1,σ7,H7,I7.unpinned,T.keep _ _ _ st5 fun b hb o e=>(I7.pin (b,o) (List.mem_append_right _ (List.mem_append_right _ (eD hb e)))).1,fun b hb=>?_,w7⟩
   obtain ⟨o,e,d⟩:=T.obj _ _ st5 b hb
   exact (I7.pin (b,o) (List.mem_append_right _ (List.mem_append_right _ (eD hb e)))).2.1
  cases f with
  | next=>obtain ⟨σ7,H7,I7,n7⟩:=q7;exact again I7 n7
  | cont=>obtain ⟨σ7,H7,I7,n7⟩:=q7;exact again I7 n7
  | brk=>obtain ⟨σ7,H7,I7,q7⟩:=q7;exact ⟨σ7,H7,I7.unpinned,q7⟩
  | ret v=>obtain ⟨x7,σ7,H7,I7,r7,q7⟩:=q7;exact ⟨x7,σ7,H7,I7.unpinned,r7,q7⟩
end
end L2
namespace L2
open PySem PySem.Spec PyProof.Rows
abbrev R2:=V->V->Hp->VK->Prop
def OpR (X:Cx) (f:Value->Value->Sem Value) (r:R2):Prop:=
 ∀ (pins:List (Addr×Obj)) (s:Shared) (σ:St) (H:Hp) (x y:V) (v u:Value) (Q:VK),Inv X pins σ H s->cQ x v->cQ y u->r x y H Q->
  wpAny (model X.prog X.w) X.A (f v u) (EP X pins σ Q) X.xe s
def UnR (X:Cx) (f:Value->Sem Value) (r:V->Hp->VK->Prop):Prop:=
 ∀ (pins:List (Addr×Obj)) (s:Shared) (σ:St) (H:Hp) (x:V) (v:Value) (Q:VK),Inv X pins σ H s->cQ x v->r x H Q->
  wpAny (model X.prog X.w) X.A (f v) (EP X pins σ Q) X.xe s
def sY (X:Cx) (f:Value) (r:List V->Hp->VK->Prop):Prop:=
 ∀ (pins:List (Addr×Obj)) (s:Shared) (σ:St) (H:Hp) (xs:List V) (us:List Value) (Q:VK),Inv X pins σ H s->cM xs us->r xs H Q->
  wpAny (model X.prog X.w) X.A (call f us) (EP X pins σ Q) X.xe s
abbrev tOp (r:R2) (ta tb:TE):TE:=fun σ H Q=>ta σ H fun x H1=>tb σ H1 fun y H2=>r x y H2 Q
abbrev tUn (r:V->Hp->VK->Prop) (ta:TE):TE:=fun σ H Q=>ta σ H fun x H1=>r x H1 Q
def rI (C:Int->Int->Prop) (g:Int->Int->V):R2:=fun x y H Q=>∃ i j,x=.int i/\y=.int j/\C i j/\Q (g i j) H
def rI0 (g:Int->Int->V):R2:=fun x y H Q=>∃ i j,x=.int i/\y=.int j/\Q (g i j) H
def rU (g:Int->V):V->Hp->VK->Prop:=fun x H Q=>∃ i,x=.int i/\Q (g i) H
section
variable {X:Cx} {a b c:Expr} {ta tb tc:TE} {pos:Pos}
theorem zMp (ha:PE X a ta) (hb:PE X b tb) {pins:List (Addr×Obj)} {s:Shared} {σ:St} {H:Hp} {R:V->V->Hp->Prop} (I:Inv X pins σ H s)
  (h:ta σ H fun x H1=>tb σ H1 fun y H2=>R x y H2) {Q:Value->Shared->Prop} {f:Value->Value->Sem Value}
  (hf:∀ v u s2 x y H2,Inv X pins σ H2 s2->cQ x v->cQ y u->R x y H2->wpAny (model X.prog X.w) X.A (f v u) Q X.xe s2):
  wpAny (model X.prog X.w) X.A (eval a X.env) (fun v s₁=>wpAny (model X.prog X.w) X.A (eval b X.env) (fun u s₂=>wpAny (model X.prog X.w) X.A (f v u) Q X.xe s₂) X.xe s₁) X.xe s:=by
 refine thn (ha pins s σ H _ I h) fun v s1 ⟨x,H1,I1,r1,q1⟩=>?_
 refine thn (hb pins s1 σ H1 _ I1 q1) fun u s2 ⟨y,H2,I2,r2,q2⟩=>?_
 exact hf v u s2 x y H2 I2 r1 r2 q2
theorem zDP {op:Operator} {r:R2} (ho:OpR X (binaryOp op) r) (ha:PE X a ta) (hb:PE X b tb):PE X (.BinOp a op b pos) (tOp r ta tb):=by
 intro pins s σ H Q I h
 exact wpAny_BinOp (zMp ha hb I h fun v u s2 x y H2 I2 rx ry q=>ho pins s2 σ H2 x y v u Q I2 rx ry q)
theorem zMt {op:UnaryOp} {r:V->Hp->VK->Prop} (ho:UnR X (unaryOp op) r) (ha:PE X a ta):PE X (.UnaryOp op a pos) (tUn r ta):=by
 intro pins s σ H Q I h
 exact UnaryOp_ (thn (ha pins s σ H _ I h) fun v s1 ⟨x,H1,I1,r1,q1⟩=>ho pins s1 σ H1 x v Q I1 r1 q1)
theorem opI {f:Value->Value->Sem Value} {C:Int->Int->Prop} {g:Int->Int->Int}
  (rule:∀ (i j:Int) (t u:Tok) (s:Shared) (Q:Value->Shared->Prop) (E:Value->Shared->Prop),C i j->Q (.int (g i j) s.toks) { s with toks:=s.toks+1 }->wpAny (model X.prog X.w) X.A (f (.int i t) (.int j u)) Q E s):
  OpR X f (rI C fun i j=>.int (g i j)):=by
 intro pins s σ H x y v u Q I rx ry h
 obtain ⟨i,j,rfl,rfl,hc,q⟩:=h
 obtain ⟨t,rfl⟩:=rx
 obtain ⟨t',rfl⟩:=ry
 exact rule i j t t' s _ _ hc ⟨.int (g i j),H,I.tok _,⟨_,rfl⟩,q⟩
theorem zMQ {f:Value->Value->Sem Value} {g:Int->Int->Int}
  (rule:∀ (i j:Int) (t u:Tok) (s:Shared) (Q:Value->Shared->Prop) (E:Value->Shared->Prop),Q (.int (g i j) s.toks) { s with toks:=s.toks+1 }->wpAny (model X.prog X.w) X.A (f (.int i t) (.int j u)) Q E s):
  OpR X f (rI0 fun i j=>.int (g i j)):=by
 intro pins s σ H x y v u Q I rx ry h
 obtain ⟨i,j,rfl,rfl,q⟩:=h
 obtain ⟨t,rfl⟩:=rx
 obtain ⟨t',rfl⟩:=ry
 exact rule i j t t' s _ _ ⟨.int (g i j),H,I.tok _,⟨_,rfl⟩,q⟩
theorem zMI {f:Value->Value->Sem Value} {g:Int->Int->Bool}
  (rule:∀ (i j:Int) (t u:Tok) (s:Shared) (Q:Value->Shared->Prop) (E:Value->Shared->Prop),Q (.bool (g i j)) s->wpAny (model X.prog X.w) X.A (f (.int i t) (.int j u)) Q E s):
  OpR X f (rI0 fun i j=>.bl (g i j)):=by
 intro pins s σ H x y v u Q I rx ry h
 obtain ⟨i,j,rfl,rfl,q⟩:=h
 obtain ⟨t,rfl⟩:=rx
 obtain ⟨t',rfl⟩:=ry
 exact rule i j t t' s _ _ ⟨.bl (g i j),H,I,rfl,q⟩
def zLz (i j:Int):Prop:=(-(2^64) < i/\i < 2^64)∨(-(2^64) < j/\j < 2^64)
theorem zLz.ok {i j:Int} (h:zLz i j):IntMulOk i j:=by
 rcases h with ⟨h1,h2⟩ | ⟨h1,h2⟩
 ·exact .of_left (intBits_le_64 h1 h2)
 ·exact .of_right (intBits_le_64 h1 h2)
theorem zKA:OpR X (binaryOp .Add) (rI0 fun i j=>.int (i+j)):=zMQ fun _ _ _ _ _ _ _ q=>add_int q
theorem oK:OpR X (binaryOp .Sub) (rI0 fun i j=>.int (i - j)):=zMQ fun _ _ _ _ _ _ _ q=>sub_int q
theorem iQ:OpR X (binaryOp .Mod) (rI (fun _ j=>j≠0) fun i j=>.int (i.fmod j)):=opI fun _ _ _ _ _ _ _ hc q=>mod_int' hc q
theorem unI {f:Value->Sem Value} {g:Int->Int}
  (rule:∀ (i:Int) (t:Tok) (s:Shared) (Q:Value->Shared->Prop) (E:Value->Shared->Prop),Q (.int (g i) s.toks) { s with toks:=s.toks+1 }->wpAny (model X.prog X.w) X.A (f (.int i t)) Q E s):
  UnR X f (rU fun i=>.int (g i)):=by
 intro pins s σ H x v Q I rx h
 obtain ⟨i,rfl,q⟩:=h
 obtain ⟨t,rfl⟩:=rx
 exact rule i t s _ _ ⟨.int (g i),H,I.tok _,⟨_,rfl⟩,q⟩
theorem zLo:UnR X (unaryOp .USub) (rU fun i=>.int (-i)):=unI fun _ _ _ _ _ q=>neg_int q
end
section
variable {X:Cx} {a b c:Expr} {ta tb tc:TE} {pos:Pos}
theorem vU:OpR X (compareOp .Lt) (rI0 fun i j=>.bl (decide (i < j))):=zMI fun _ _ _ _ _ _ _ q=>lt_int q
theorem zFJ:OpR X (compareOp .Gt) (rI0 fun i j=>.bl (decide (j < i))):=zMI fun _ _ _ _ _ _ _ q=>gt_int q
theorem OpR.or {f:Value->Value->Sem Value} {r r':R2} (h:OpR X f r) (h':OpR X f r'):OpR X f (fun x y H Q=>r x y H Q∨r' x y H Q):=by
 intro pins s σ H x y v u Q I rx ry q
 rcases q with q | q
 ·exact h pins s σ H x y v u Q I rx ry q
 ·exact h' pins s σ H x y v u Q I rx ry q
theorem bC (b:Expr) {op:CmpOp} (h:op≠.In:=by decide) (h2:op≠.NotIn:=by decide):behindInMarks op b=false:=by
 have e1:(op==CmpOp.In)=false:=by cases op<;>first | rfl | exact absurd rfl h
 have e2:(op==CmpOp.NotIn)=false:=by cases op<;>first | rfl | exact absurd rfl h2
 cases b<;>simp [behindInMarks,e1,e2]
theorem zIV {op:CmpOp} {r:R2} (ho:OpR X (compareOp op) r) (ha:PE X a ta) (hb:PE X b tb) (hm:behindInMarks op b=false):PE X (.Compare a [op] [b] pos) (tOp r ta tb):=by
 intro pins s σ H Q I h
 exact wpAny_Compare1 (zMp ha hb I h fun v u s2 x y H2 I2 rx ry q=>ho pins s2 σ H2 x y v u Q I2 rx ry q) hm
abbrev zJE (t:TE):TT:=fun σ H Q=>t σ H fun x H'=>∃ k,x=.bl k/\Q k H'
theorem zCZ {op:CmpOp} {r:R2} (ho:OpR X (compareOp op) r) (ha:PE X a ta) (hb:PE X b tb) (hm:behindInMarks op b=false):PT X (.Compare a [op] [b] pos) (zJE (tOp r ta tb)):=by
 intro pins s σ H Q I h
 refine wpAny_isTrue_Compare1 (thn (ha pins s σ H _ I h) fun v s1 ⟨x,H1,I1,r1,q1⟩=>thn (hb pins s1 σ H1 _ I1 q1) fun u s2 ⟨y,H2,I2,r2,q2⟩=>
  thn (ho pins s2 σ H2 x y v u _ I2 r1 r2 q2) fun c s3 ⟨z,H3,I3,r3,k,e,q3⟩=>?_) hm
 subst e
 cases r3
 exact wpAny_truthy_bool ⟨H3,I3,q3⟩
theorem zBo:(sizeLine:Nat) < 2^63:=by rw [sizeLine_eq];decide
theorem zCz {x:V} {us:List Value} (r:cM [x] us):∃ u,us=[u]/\cQ x u:=by
 cases r with
 | cons r1 r2=>cases r2;exact ⟨_,rfl,r1⟩
theorem zLQ {x y:V} {us:List Value} (r:cM [x,y] us):∃ u w',us=[u,w']/\cQ x u/\cQ y w':=by
 cases r with
 | cons r1 r2=>
  cases r2 with
  | cons r3 r4=>cases r4;exact ⟨_,_,rfl,r1,r3⟩
theorem pJ:sY X (.builtin "abs") (fun xs H Q=>∃ i,xs=[.int i]/\Q (.int (if i < 0 then -i else i)) H):=by
 intro pins s σ H xs us Q I r h
 obtain ⟨i,rfl,q⟩:=h
 obtain ⟨u,rfl,t,rfl⟩:=zCz r
 exact call_abs_int fun u tk=>⟨.int (if i < 0 then -i else i),H,I.tok _,⟨_,rfl⟩,q⟩
end
end L2
namespace L2
open PySem PySem.Spec PyProof.Rows
section
variable {prog:Program} {w:World} {A:Around} {E:Value->Shared->Prop} {s:Shared} {K:PySem.W.Frag} {x dx C f:Addr} {mA:Str->Option Value} {name:Str} {v:Value}
end
section
variable {P:Program} {w:World} {H H':Hp} {h h':Heap} {a C dx:Addr} {fs fs':List (Str×V)}
end
section
variable {X:Cx} {pins:List (Addr×Obj)} {σ:St} {H:Hp} {s:Shared} {a C dx:Addr} {fs:List (Str×V)} {f:Str} {v:V} {A:Around} {E:Value->Shared->Prop}
end
section
variable {X:Cx} {o e value:Expr} {f:Str} {pos pos' tpos:Pos} {ta tv:TE}
end
section
variable {X:Cx} {pins:List (Addr×Obj)} {σ:St} {H:Hp} {s:Shared} {A:Around} {E:Value->Shared->Prop} {Q:Value->Shared->Prop} {c:Value} {b:Bool}
end
end L2
namespace L2
open PySem PySem.Spec PyProof.Rows
structure Room (k:Nat) (A:Around):Prop where
 hd:A.handled=none
 dp:A.depth+3 * k+5 < recursionLimit
 un:A.units+16 * k+200 < cLine
theorem Room.mono {j k:Nat} {A:Around} (r:Room k A) (h:j<=k):Room j A:=⟨r.hd,by have:=r.dp;omega,by have:=r.un;omega⟩
theorem Room.deeper {k:Nat} {A:Around} (r:Room (k+1) A) (env:Env):Room k (A.deeper env):=
 ⟨r.hd,by have:=r.dp;show A.depth+1+3 * k+5 < _;omega,by have:=r.un;show A.units+3+16 * k+200 < _;omega⟩
theorem Room.depth {k:Nat} {A:Around} (r:Room k A):A.depth < recursionLimit:=by have:=r.dp;omega
theorem Room.units {k:Nat} {A:Around} (r:Room k A):A.units+64 < cLine:=by have:=r.un;omega
abbrev zNq:TA:=fun _ H Q=>Q [] H
abbrev zLO (ta:TE) (tr:TA):TA:=fun σ H Q=>ta σ H fun x H1=>tr σ H1 fun xs H2=>Q (x::xs) H2
section
variable {X:Cx} {e:Expr} {es:List Expr} {te:TE} {t:TA} {pos:Pos}
theorem oM:PA X [] zNq:=fun _ _ _ _ H Q I h=>Calls.spliced_nil ⟨[],H,I,.nil,h⟩
theorem iX (ha:PE X e te) (hr:PA X es t) (hs:starEach (e::es) X.env=(false,eval e X.env)::starEach es X.env:=by rfl):PA X (e::es) (zLO te t):=by
 intro pos pins s σ H Q I h
 rw [hs]
 show wpAny _ _ (spliced ((false,eval e X.env)::backTo pos (starEach es X.env))) _ _ s
 refine Calls.spliced_cons (thn (ha pins s σ H _ I h) fun u s1 ⟨x,H1,I1,r1,q1⟩=>?_)
 exact thn (hr pos pins s1 σ H1 _ I1 q1) fun us s2 ⟨xs,H2,I2,r2,q2⟩=>⟨x::xs,H2,I2,.cons r1 r2,q2⟩
abbrev zNg (t:TA):TE:=fun σ H Q=>t σ H fun xs H1=>xs.length<=sizeLine/\∀ p,H1 p=none->Q (.ref p) (upd H1 p (.tup xs))
abbrev zNd (t:TA):TE:=fun σ H Q=>t σ H fun xs H1=>xs.length<=sizeLine/\∀ p,H1 p=none->Q (.ref p) (upd H1 p (.lst xs))
theorem zLb {x1} (h:PA X es t):PE X (.Tuple es x1 pos) (zNg t):=by
 intro pins s σ H Q I hq
 refine wpAny_Tuple_spliced (thn (h pos pins s σ H _ I hq) fun us s1 ⟨xs,H1,I1,r,z,q⟩=>⟨by rw [<-r.length];exact z,?_⟩)
 have hf:H1 s1.heap.objs.size=none:=I1.hok.fresh (Nat.le_refl _)
 refine ⟨.ref s1.heap.objs.size,upd H1 s1.heap.objs.size (.tup xs),I1.laid (t':=s1.toks) (fun b u e=>Heap.get?_push_of_some _ e) (Nat.le_refl _) ?_,rfl,q _ hf⟩
 exact ⟨z,us,r,⟨_,Heap.get?_push_size _ rfl,rfl,_,rfl⟩⟩
theorem zLc (h:PA X es t):PE X (.List es pos) (zNd t):=by
 intro pins s σ H Q I hq
 refine wpAny_List_spliced (thn (h pos pins s σ H _ I hq) fun us s1 ⟨xs,H1,I1,r,z,q⟩=>⟨by rw [<-r.length];exact z,?_⟩)
 have hf:H1 s1.heap.objs.size=none:=I1.hok.fresh (Nat.le_refl _)
 refine ⟨.ref s1.heap.objs.size,upd H1 s1.heap.objs.size (.lst xs),I1.laid (t':=s1.toks) (fun b u e=>Heap.get?_push_of_some _ e) (Nat.le_refl _) ?_,rfl,q _ hf⟩
 exact ⟨z,us,0,r,Heap.get?_push_size _ rfl⟩
end
abbrev Sp:=List V->Hp->VK->XK->Prop
abbrev CXT:=List Env->Hp->Shared->XK->Value->Shared->Prop
structure Env0 (P:Program) (w:World) (K:PySem.W.Frag) (mg:Str->Option Value) (base:Heap) (A:Around) (outer:List Env) (s:Shared) (H:Hp):Prop where
 frames:A.frames=some outer
 mod:Mod K mg base
 bs:∀ b o,base.get? b=some o->s.heap.get? b=some o/\H b=none
 bsz:base.objs.size<=s.heap.objs.size
 funs:s.heap.FunFrames base outer
 frf:∀ b∈frs outer,H b=none
 hok:HOk P w H s.heap
 bare:AllBare s.gens
def CE (outer:List Env) (P:Program) (w:World) (H:Hp) (s:Shared) (Q:VK) (u:Value) (s':Shared):Prop:=
 ∃ v H',s'.os=s.os/\AllBare s'.gens/\Un (frs outer) [] H H' s.heap s'.heap/\HOk P w H' s'.heap/\cQ v u/\Q v H'
def CR (CX:CXT) (outer:List Env) (P:Program) (w:World) (H:Hp) (s:Shared) (Q:VK) (E:XK) (r:Result) (s':Shared):Prop:=
 match r with
 | .ok (.ret u)=>CE outer P w H s Q u s'
 | .ok _=>False
 | .error e=>CX outer H s E e s'
structure FnOk (P:Program) (w:World) (K:PySem.W.Frag) (mg:Str->Option Value) (base:Heap) (CX:CXT) (k:Nat) (f:Addr) (fd:FuncData) (ps:List Str) (sp:Sp):Prop where
 len:∀ vs H Q E,sp vs H Q E->vs.length=ps.length
 run:∀ (A:Around) (outer:List Env) (s:Shared) (H:Hp) (args:Args) (us:List Value) (vs:List V) (Q:VK) (E:XK),Room k A->Env0 P w K mg base A outer s H->BindsTo s fd args (ps.zip us)->cM vs us->sp vs H Q E->
  codeAny (model P w) A (.call (.ref f) args) (CR CX outer P w H s Q E) s
theorem FnOk.mono {P:Program} {w:World} {K:PySem.W.Frag} {mg:Str->Option Value} {base:Heap} {CX:CXT} {j k:Nat} {f:Addr} {fd:FuncData} {ps:List Str} {sp:Sp} (F:FnOk P w K mg base CX j f fd ps sp) (h:j<=k):
  FnOk P w K mg base CX k f fd ps sp:=⟨F.len,fun A outer s H args us vs Q E hr=>F.run A outer s H args us vs Q E (hr.mono h)⟩
theorem FnOk.imp {P:Program} {w:World} {K:PySem.W.Frag} {mg:Str->Option Value} {base:Heap} {CX:CXT} {k:Nat} {f:Addr} {fd:FuncData} {ps:List Str} {sp sp':Sp} (F:FnOk P w K mg base CX k f fd ps sp)
  (h:∀ vs H Q E,sp' vs H Q E->sp vs H Q E):FnOk P w K mg base CX k f fd ps sp':=
 ⟨fun vs H Q E q=>F.len vs H Q E (h _ _ _ _ q),fun A outer s H args us vs Q E hr he hb hv hs=>F.run A outer s H args us vs Q E hr he hb hv (h _ _ _ _ hs)⟩
theorem Env0.in1 {P:Program} {w:World} {K:PySem.W.Frag} {mg:Str->Option Value} {base:Heap} {A:Around} {outer:List Env} {s:Shared} {H:Hp} (e:Env0 P w K mg base A outer s H):
  Env0 P w K mg base A.in1 outer s H:=⟨e.frames,e.mod,e.bs,e.bsz,e.funs,e.frf,e.hok,e.bare⟩
section
variable {X:Cx} {pins:List (Addr×Obj)} {σ:St} {H:Hp} {s s':Shared}
theorem Inv.env0 (I:Inv X pins σ H s):Env0 X.prog X.w X.K X.mg X.base X.A X.stack s H:=
 ⟨I.ok.frames,I.ok.mod,I.bs,Nat.le_trans I.ok.bsz I.sz,I.stack,I.stkFree,I.hok,I.bare⟩
theorem Inv.after {Q:VK} {u:Value} (I:Inv X pins σ H s) (h:CE X.stack X.prog X.w H s Q u s'):EP X pins σ Q u s':=by
 obtain ⟨v,H',os,bare,un,hok,r,q⟩:=h
 obtain ⟨hh,g,d,t,os'⟩:=s'
 obtain rfl:os'=s.os:=os
 exact ⟨v,H',I.call (h':=hh) (g':=g) (d':=d) (t':=t) (ch:=[]) un hok bare (fun b z=>absurd z (by simp)),r,q⟩
end
abbrev zHY (sp:Sp) (dvs:List V) (E:XK) (t:TA):TE:=fun σ H Q=>t σ H fun vs H1=>sp (vs++dvs) H1 Q E
def xG (K:PySem.W.Frag) (fd:FuncData) (ps:List Str) (ds:List Value):Prop:=
 ∀ (s:Shared) (us:List Value),K.In s.heap->(us++ds).length=ps.length->BindsTo s fd ⟨us,[]⟩ (ps.zip (us++ds))
theorem xG.all {K:PySem.W.Frag} {fd:FuncData} {ps:List Str} (h:∀ us:List Value,us.length=ps.length->bindArgs fd ⟨us,[]⟩=pure (ps.zip us)):xG K fd ps []:=fun s us _ hl=>by
 rw [List.append_nil] at hl ⊢
 exact .of_eq (h us hl)
def zBL (CX:CXT) (X:Cx) (E:XK):Prop:=∀ (pins:List (Addr×Obj)) (σ:St) (H:Hp) (s:Shared) (e:Value) (s':Shared),Inv X pins σ H s->CX X.stack H s E e s'->X.xe e s'
section
variable {X:Cx} {CX:CXT} {k:Nat} {f C:Addr} {fd:FuncData} {ps:List Str} {sp:Sp} {dvs:List V} {ds:List Value} {E:XK} {x m:Str} {p pos apos:Pos} {e o:Expr} {es:List Expr} {ta:TE} {t:TA}
theorem zJT {pins:List (Addr×Obj)} {σ:St} {H:Hp} {s:Shared} {Q:VK} {us:List Value} {vs:List V} (F:FnOk X.prog X.w X.K X.mg X.base CX k f fd ps sp) (hr:Room k X.A) (hb:xG X.K fd ps ds) (hd:cM dvs ds) (hx:zBL CX X E)
  (I:Inv X pins σ H s) (r:cM vs us) (h:sp (vs++dvs) H Q E):wpAny (model X.prog X.w) X.A (call (.ref f) us) (EP X pins σ Q) X.xe s:=by
 have r2:cM (vs++dvs) (us++ds):=r.append hd
 have hl:(us++ds).length=ps.length:=by rw [<-r2.length];exact F.len _ _ _ _ h
 refine wpAny_call (codeAny_mono (F.run X.A X.stack s H ⟨us,[]⟩ (us++ds) (vs++dvs) Q E hr I.env0 (hb s us I.kIn hl) r2 h) fun r s' hq=>?_)
 cases r with
 | error e=>exact hx pins σ H s e s' I hq
 | ok fl=>
  cases fl with
  | ret u=>exact I.after hq
  | next=>exact False.elim hq
  | brk=>exact False.elim hq
  | cont=>exact False.elim hq
theorem zAj (F:FnOk X.prog X.w X.K X.mg X.base CX k f fd ps sp) (hr:Room k X.A) (hg:Gl X x) (hm:X.mg x=some (.ref f)) (hk:PySem.W.keepIn X.K (.ref f)=true) (hb:xG X.K fd ps ds) (hd:cM dvs ds) (hx:zBL CX X E)
  (ha:PA X (e::es) t) (hdb:(x==("__debug__" : Str))=false:=by decide) (he:starEach (e::es) X.env=(false,eval e X.env)::starEach es X.env:=by rfl) (hpl:(backTo pos (starEach es X.env)).any (·.1)=false:=by rfl):
  PE X (.Call (.Name x p) (e::es) [] pos) (zHY sp dvs E t):=by
 intro pins s σ H Q I h
 refine wpAny_Call_Name_kw (zBc I hg hm ?_ hdb)
 refine PySem.W.callWith_K (h₀:=X.base) I.ok.mod.kin hk (thn (ha pos pins s σ H _ I h) fun us s1 ⟨vs,H1,I1,r,q⟩=>⟨I1.kIn,?_⟩) he hpl
 exact zJT F hr hb hd hx I1 r q
end
section
variable {X:Cx} {CX:CXT} {k:Nat} {f C:Addr} {fd:FuncData} {ps ks:List Str} {sp:Sp} {E:XK} {x m:Str} {p pos apos kpos:Pos} {e o:Expr} {es:List Expr} {kws:List Keyword} {te ta:TE} {t tk:TA} {nm:Option Str}
variable {g:List Value->List Value->List Value} {gV:List V->List V->List V}
end
structure FnScope (N P:List Str) (sc:Scope):Prop where
 kind:sc.kind=.function
 co:sc.isCoroutine=false
 gen:sc.isGenerator=false
 nd:N.Nodup
 pre:N.take P.length=P
 par:∀ x∈P,sc.names.lookup x=some .local∨sc.names.lookup x=some .cell
 nofree:∀ y∈sc.names,y.2≠.free
theorem yE {kindOf:Str->Option NameKind} {x:Str}:∀ {binds:List (Str×Value)} {m:Str->Option Value},(∀ v,(x,v)∉binds)->bindL kindOf binds m x=m x
 | [],_,_=>rfl
 | (n,v)::r,m,h=>by
  unfold bindL
  rw [yE fun w hw=>h w (List.mem_cons_of_mem _ hw)]
  split
  ·have:x≠n:=by rintro rfl;exact h v List.mem_cons_self
   simp [this]
  ·rfl
theorem zI {kindOf:Str->Option NameKind} {x:Str}:∀ {binds:List (Str×Value)} {m:Str->Option Value},(∀ v,(x,v)∉binds)->bindC kindOf binds m x=m x
 | [],_,_=>rfl
 | (n,v)::r,m,h=>by
  unfold bindC
  rw [zI fun w hw=>h w (List.mem_cons_of_mem _ hw)]
  split
  ·rfl
  ·have:x≠n:=by rintro rfl;exact h v List.mem_cons_self
   simp [this]
theorem xH {kindOf:Str->Option NameKind} {x:Str} {v:Value}:∀ {P:List Str} {vs:List Value} {i:Nat} {m:Str->Option Value},P.Nodup->P[i]?=some x->vs[i]?=some v->kindOf x=some .local->
  bindL kindOf (P.zip vs) m x=some v
 | [],_,_,_,_,h,_,_=>by simp at h
 | _::_,[],_,_,_,_,h,_=>by simp at h
 | p::P,w::vs,0,m,nd,h1,h2,hk=>by
  simp at h1 h2;subst h1;subst h2
  show bindL kindOf ((p,w)::P.zip vs) m p=_
  unfold bindL
  rw [yE fun v hv=>(List.nodup_cons.mp nd).1 (List.of_mem_zip hv).1,if_pos hk]
  simp
 | p::P,w::vs,i+1,m,nd,h1,h2,hk=>by
  show bindL kindOf ((p,w)::P.zip vs) m x=_
  unfold bindL
  exact xH (i:=i) (List.nodup_cons.mp nd).2 (by simpa using h1) (by simpa using h2) hk
theorem zH {kindOf:Str->Option NameKind} {x:Str} {v:Value}:∀ {P:List Str} {vs:List Value} {i:Nat} {m:Str->Option Value},P.Nodup->P[i]?=some x->vs[i]?=some v->kindOf x≠some .local->
  bindC kindOf (P.zip vs) m x=some v
 | [],_,_,_,_,h,_,_=>by simp at h
 | _::_,[],_,_,_,_,h,_=>by simp at h
 | p::P,w::vs,0,m,nd,h1,h2,hk=>by
  simp at h1 h2;subst h1;subst h2
  show bindC kindOf ((p,w)::P.zip vs) m p=_
  unfold bindC
  rw [zI fun v hv=>(List.nodup_cons.mp nd).1 (List.of_mem_zip hv).1,if_neg hk]
  simp
 | p::P,w::vs,i+1,m,nd,h1,h2,hk=>by
  show bindC kindOf ((p,w)::P.zip vs) m x=_
  unfold bindC
  exact zH (i:=i) (List.nodup_cons.mp nd).2 (by simpa using h1) (by simpa using h2) hk
def start (N:List Str) (vs:List V):St:=vs.map some++List.replicate (N.length - vs.length) none
def zCJ (CX:CXT) (P:Program) (w:World) (K:PySem.W.Frag) (mg:Str->Option Value) (base:Heap) (N:List Str) (qual:Str) (scope:Scope) (f:Addr) (cd:Value) (A:Around) (outer:List Env) (s:Shared) (H:Hp) (E:XK):Cx where
 prog:=P
 w:=w
 K:=K
 mg:=mg
 base:=base
 A:=A.deeper (envOfC qual scope s.heap.objs.size f cd)
 N:=N
 s₀:=s
 H₀:=H
 env:=envOfC qual scope s.heap.objs.size f cd
 outer:=outer
 stack:=envOfC qual scope s.heap.objs.size f cd::outer
 ex:=[]
 calm:=true
 fn:=fun _=>true
 pn:=[]
 xe:=fun e s'=>wpAny (model P w) (A.deeper (envOfC qual scope s.heap.objs.size f cd)) (leaving (envOfC qual scope s.heap.objs.size f cd) e) (fun _ s''=>CX outer H s E e s'') (fun e' s''=>CX outer H s E e' s'') s'
theorem zCf {sc:Scope} {n:Nat} {x:Str} (h:sc.names.lookup x=some .cell):∃ c,(cellsFrom n sc.names []).lookup x=some c:=by
 have q:=PySem.W.cellsFrom_some sc.names n [] (.inl h)
 exact Option.isSome_iff_exists.mp q
theorem zDG {CX:CXT} {P:Program} {w:World} {K:PySem.W.Frag} {mg:Str->Option Value} {base:Heap} {N ps:List Str} {qual:Str} {scope:Scope} {f:Addr} {cd:Value} {A:Around} {outer:List Env} {s s1:Shared} {H:Hp} {E:XK} {us:List Value} {vs:List V}
  (S:FnScope N ps scope) (hd:A.handled=none) (e0:Env0 P w K mg base A outer s H) (hl:vs.length=ps.length) (r:cM vs us)
  (x:InCallC s s.heap.objs.size (bindL (envOfC qual scope s.heap.objs.size f cd).kindOf (ps.zip us) fun _=>none) (cellsFrom (s.heap.objs.size+1) scope.names []) (bindC (envOfC qual scope s.heap.objs.size f cd).kindOf (ps.zip us) fun _=>none) s1):
  Inv (zCJ CX P w K mg base N qual scope f cd A outer s H E) [] (start N vs) H s1:=by
 have hpl:ps.length<=N.length:=by have:=congrArg List.length S.pre;rw [List.length_take] at this;omega
 obtain ⟨h1,tk,rfl,hk⟩:=x.done
 have noA:∀ b:Addr,b∉(zCJ CX P w K mg base N qual scope f cd A outer s H E).ex:=fun b z=>absurd (show b∈([]:List Addr) from z) (by simp)
 refine ⟨⟨e0.mod,S.kind,rfl,rfl,Nat.le_refl _,fun y z c h1 h2=>?_,fun y hy=>?_,fun y c _ h=>?_,fun _=>hd,Around.frames_deeper e0.frames,.inr ⟨rfl,rfl⟩,fun b z=>absurd z (noA b),e0.bs,e0.bsz,fun b _ _=>noA b,fun b z=>absurd z (noA b),e0.funs,e0.frf⟩,
  rfl,e0.bare,Un.kept hk,⟨_,x.toInCall.ns,fun i y v h1 h2 h3=>?_⟩,fun y c h=>⟨_,x.cell y c h⟩,e0.hok.fresh (Nat.le_refl _),fun y c h=>?_,fun p hp=>absurd (show p∈([]:List (Addr×Obj)) from hp) (by simp),e0.hok.kept hk,?_⟩
 ·exact name_of_addr x.apart (PySem.mem_of_lookup h1) (PySem.mem_of_lookup h2)
 ·have hy:scope.names.lookup y=some .cell∨scope.names.lookup y=some .free:=hy
  rcases hy with hy | hy
  ·exact zCf hy
  ·exact absurd rfl (S.nofree _ (PySem.mem_of_lookup hy))
 ·exact Nat.le_of_lt (x.above y c (PySem.mem_of_lookup h))
 ·have hi:i < vs.length:=by
   unfold start at h2
   by_cases hi:i < vs.length
   ·exact hi
   ·rw [List.getElem?_append_right (by simpa using hi)] at h2
    rw [List.getElem?_replicate] at h2
    split at h2<;>cases h2
  have ha:vs[i]?=some v:=by
   unfold start at h2
   rw [List.getElem?_append_left (by simpa using hi),List.getElem?_map] at h2
   cases e:vs[i]? with
   | none=>rw [e] at h2;cases h2
   | some a=>rw [e] at h2;cases h2;rfl
  obtain ⟨u,hu,rv⟩:=r.get ha
  have hp:ps[i]?=some y:=by
   rw [<-S.pre,List.getElem?_take_of_lt (by omega)];exact h1
  have ndP:ps.Nodup:=by rw [<-S.pre];exact S.nd.sublist (List.take_sublist _ _)
  refine ⟨u,rv,?_⟩
  rcases S.par y (List.mem_of_getElem? hp) with k | k
  ·exact .inl ⟨k,xH ndP hp hu k⟩
  ·obtain ⟨c,e⟩:=zCf (n:=s.heap.objs.size+1) k
   refine .inr ⟨.inl k,c,e,?_⟩
   have q:=x.cell y c e
   rw [zH ndP hp hu (by show scope.names.lookup y≠_;rw [k];decide)] at q
   exact q
 ·exact e0.hok.fresh (Nat.le_of_lt (x.above y c (PySem.mem_of_lookup h)))
 ·unfold start
  show _=N.length
  rw [List.length_append,List.length_map,List.length_replicate]
  omega
theorem zJC {CX:CXT} {P:Program} {w:World} {K:PySem.W.Frag} {mg:Str->Option Value} {base:Heap} {k:Nat} {f:Addr} {name qual:Str} {params:Arguments} {body:List Stmt} {scope:Scope} {dV kV doc pm cdv ct oc:Value} {an od:Option Addr}
  {osl:Array (Option Value)} {N ps:List Str} {sp:Sp} (lk:K.lookup f=some ⟨oc,od,.func (PySem.W.fnOf name qual params body scope dV kV doc pm an cdv ct),osl⟩) (hcd:PySem.W.codeIn K cdv qual=true) (S:FnScope N ps scope)
  (len:∀ vs H Q E,sp vs H Q E->vs.length=ps.length)
  (hbody:∀ (A:Around) (outer:List Env) (s:Shared) (H:Hp) (vs:List V) (Q:VK) (E:XK),Room k (A.deeper (envOfC qual scope s.heap.objs.size f cdv))->sp vs H Q E->
   ∃ t,PSs (zCJ CX P w K mg base N qual scope f cdv A outer s H E) body t/\t { nx:=fun _ H'=>Q .non H',rt:=Q } (start N vs) H):
  FnOk P w K mg base CX (k+1) f (PySem.W.fnOf name qual params body scope dV kV doc pm an cdv ct) ps sp:=by
 refine ⟨len,fun A outer s H args us vs Q E hr e0 hb r hsp=>?_⟩
 have hl:=len _ _ _ _ hsp
 have KX:K.In s.heap:=e0.mod.kin.keeps fun b o e=>(e0.bs b o e).1
 have lim:s.heap.NoLimit:=e0.mod.nolimit.keeps fun b o e=>(e0.bs b o e).1
 have hkind:∀ y∈ps.zip us,scope.names.lookup y.1=some .local∨(scope.names.lookup y.1=some .cell/\((cellsFrom (s.heap.objs.size+1) scope.names []).lookup y.1).isSome=true):=fun ⟨n,v⟩ hy=>by
  rcases S.par n (List.of_mem_zip hy).1 with q | q
  ·exact .inl q
  ·exact .inr ⟨q,PySem.W.cellsFrom_some _ _ _ (.inl q)⟩
 refine codeAny_call_function hr.depth (KX _ _ lk) rfl S.co S.gen rfl (PySem.W.codeRec_of KX hcd) (hb _ _ _ _ ?_)
 refine wpAny_newFunctionEnv_cells S.kind hkind fun env he s1 x=>?_
 subst he
 refine ⟨lim.keeps x.toInCall.keep,codeAny_func ?_⟩
 obtain ⟨t,ht,hq⟩:=hbody A outer s H vs Q E (hr.deeper _) hsp
 have I:Inv (zCJ CX P w K mg base N qual scope f cdv A outer s H E) [] (start N vs) H s1:=zDG S hr.hd e0 hl r x
 refine wpAny_mono (ht [] s1 (start N vs) H _ I hq) (fun fl s' hs=>?_) fun e s' hs=>hs
 have fin:∀ {σ':St} {H':Hp} {v:V} {u:Value},Inv (zCJ CX P w K mg base N qual scope f cdv A outer s H E) [] σ' H' s'->cQ v u->Q v H'->CE outer P w H s Q u s':=
  fun {σ' H' v u} J rv q=>⟨v,H',J.os,J.bare,J.base,J.hok,rv,q⟩
 cases fl with
 | ret u=>
  obtain ⟨v,σ',H',J,rv,q⟩:=hs
  exact fin J rv q
 | next=>
  obtain ⟨σ',H',J,q⟩:=hs
  exact fin (v:=V.non) (u:=Value.none) J rfl q
 | brk=>
  obtain ⟨_,_,_,q⟩:=hs
  exact False.elim q
 | cont=>
  obtain ⟨_,_,_,q⟩:=hs
  exact False.elim q
end L2
namespace L2
open PySem PySem.Spec PyProof.Rows
section
variable {X:Cx} {x:Str} {p pos:Pos} {e:Expr} {es:List Expr} {t:TA} {id T:String} {r:List V->Hp->VK->Prop}
abbrev tCB (r:List V->Hp->VK->Prop) (t:TA):TE:=fun σ H Q=>t σ H fun vs H1=>r vs H1 Q
theorem wO (hc:sY X (.builtin id) r) (hg:Gl X x) (hm:X.mg x=none) (hv:bootBuiltins x=some (.builtin id)) (ha:PA X (e::es) t) (hn:x ≠ "__name__" := by decide) (hdb:(x==("__debug__" : Str))=false:=by decide)
  (he:starEach (e::es) X.env=(false,eval e X.env)::starEach es X.env:=by rfl) (hpl:(backTo pos (starEach es X.env)).any (·.1)=false:=by rfl):PE X (.Call (.Name x p) (e::es) [] pos) (tCB r t):=by
 intro pins s σ H Q I h
 refine wpAny_Call_Name_kw (kF I hg hm hv ?_ hn hdb)
 exact PyProof.Rows.callWith_builtin1 (thn (ha pos pins s σ H _ I h) fun us s1 ⟨vs,H1,I1,r1,q1⟩=>hc pins s1 σ H1 vs us Q I1 r1 q1) he hpl
theorem yG (hc:sY X (.type T) r) (hg:Gl X x) (hm:X.mg x=none) (hv:bootBuiltins x=some (.type T)) (ha:PA X (e::es) t) (hn:x ≠ "__name__" := by decide) (hdb:(x==("__debug__" : Str))=false:=by decide)
  (he:starEach (e::es) X.env=(false,eval e X.env)::starEach es X.env:=by rfl) (hpl:(backTo pos (starEach es X.env)).any (·.1)=false:=by rfl):PE X (.Call (.Name x p) (e::es) [] pos) (tCB r t):=by
 intro pins s σ H Q I h
 refine wpAny_Call_Name_kw (kF I hg hm hv ?_ hn hdb)
 exact PyProof.Rows.callWith_type1 (thn (ha pos pins s σ H _ I h) fun us s1 ⟨vs,H1,I1,r1,q1⟩=>hc pins s1 σ H1 vs us Q I1 r1 q1) he hpl
end
end L2
namespace HT
open PySem PyProof.Rows
section
open PySem.SeqAt
open PySem.AutoSeq1 (wpAny_loadPart')
open PySem.MeetsSeq PySem.MeetsSeq2 PySem.MeetsSeq3
end
section
variable {prog:Program} {w:World} {A:Around} {E:Value->Shared->Prop} {s:Shared}
theorem cat_tup {t b:Addr} {vs ws:List Value} {Q:Value->Shared->Prop} (ht:IsTup s.heap t vs.toArray) (hb:IsTup s.heap b ws.toArray) (hv:vs≠[])
  (h1:ws=[]->Q (.ref t) s) (h2:ws≠[]->Q (.ref s.heap.objs.size) { s with heap:=s.heap.push { cls:=.type "tuple", data:=.seq (vs++ws).toArray } })
  (hsz:vs.length+ws.length<=sizeLine):wpAny (model prog w) A (binaryOp .Add (.ref t) (.ref b)) Q E s:=by
 obtain ⟨⟨cls,dd,data,sl⟩,ho,hc,n,hd⟩:=id ht
 obtain ⟨⟨cls2,dd2,data2,sl2⟩,ho2,hc2,n2,hd2⟩:=id hb
 simp only at hc hd hc2 hd2
 subst hc hd hc2 hd2
 have e:vs.toArray++ws.toArray=(vs++ws).toArray:=by simp
 by_cases hw:ws=[]
 ·exact concat_meets ⟨_,ho,rfl⟩ ⟨_,ho2,rfl⟩ noFill_tuple_add seq_tuple_add PySem.F.slot_tuple_add PySem.F.entry_tuple_add (PySem.F.args_tuple_add_2 _ _)
   (tuple_addW1 t b vs.toArray ws.toArray n n2 dd dd2 sl sl2 (by simpa using hv) (by simp [hw])) ⟨ho,ho2,h1 hw⟩
 ·refine concat_meets ⟨_,ho,rfl⟩ ⟨_,ho2,rfl⟩ noFill_tuple_add seq_tuple_add PySem.F.slot_tuple_add PySem.F.entry_tuple_add (PySem.F.args_tuple_add_2 _ _)
   (tuple_addW2 t b vs.toArray ws.toArray n n2 dd dd2 sl sl2 (by simpa using hv) (by simpa using hw) (by rw [List.size_toArray,List.size_toArray];exact hsz)) ⟨ho,ho2,?_⟩
  rw [e]
  exact h2 hw
def sIx (n d:Nat):Option Int->Nat
 | none=>d
 | some v=>if v < 0 then (v+(n:Int)).toNat else min v.toNat n
end
end HT
namespace L2
open PySem PySem.Spec PyProof.Rows
abbrev TO:=St->Hp->(Option Int->Hp->Prop)->Prop
def PO (X:Cx) (e:Option Expr) (t:TO):Prop:=
 ∀ (pins:List (Addr×Obj)) (s:Shared) (σ:St) (H:Hp) (Q:Option Int->Hp->Prop),Inv X pins σ H s->t σ H Q->
  wpAny (model X.prog X.w) X.A (evalPart e X.env) (fun u s'=>∃ o H',Inv X pins σ H' s'/\IsPart u o/\Q o H') X.xe s
abbrev zHD:TO:=fun _ H Q=>Q none H
abbrev zLX (t:TE):TO:=fun σ H Q=>t σ H fun x H1=>∃ i,x=.int i/\Q (some i) H1
section
variable {X:Cx} {e:Expr} {te:TE} {lo hi:Option Expr} {tl th:TO} {pos p2:Pos}
theorem zIl:PO X none zHD:=by
 intro pins s σ H Q I h
 rw [evalPart_none]
 exact wpAny_pure ⟨none,H,I,.none,h⟩
theorem zHI (h:PE X e te):PO X (some e) (zLX te):=by
 intro pins s σ H Q I hw
 rw [evalPart_some]
 refine thn (h pins s σ H _ I hw) fun u s1 ⟨x,H1,I1,r1,q1⟩=>?_
 obtain ⟨i,rfl,q⟩:=q1
 obtain ⟨t,rfl⟩:=r1
 exact ⟨some i,H1,I1,.int i t,q⟩
def SlR (X:Cx) (r:V->Option Int->Option Int->Hp->VK->Prop):Prop:=
 ∀ (pins:List (Addr×Obj)) (s:Shared) (σ:St) (H:Hp) (x:V) (v vl vu:Value) (lo hi:Option Int) (sl:Addr) (Q:VK),Inv X pins σ H s->cQ x v->s.heap.IsSliceOf sl vl vu .none->IsPart vl lo->IsPart vu hi->r x lo hi H Q->
  ∃ T id,typeLookup (.type T) "__getitem__" = pure (some (.builtin id))/\s.TypeIs v T/\wpAny (model X.prog X.w) X.A (getItem v (.ref sl)) (EP X pins σ Q) X.xe s
abbrev tSl (r:V->Option Int->Option Int->Hp->VK->Prop) (te:TE) (tl th:TO):TE:=fun σ H Q=>te σ H fun x H1=>tl σ H1 fun l H2=>th σ H2 fun u H3=>r x l u H3 Q
theorem zFX {r:V->Option Int->Option Int->Hp->VK->Prop} (hr:SlR X r) (he:PE X e te) (hl:PO X lo tl) (hu:PO X hi th):PE X (.Subscript e (.Slice lo hi none p2) pos) (tSl r te tl th):=by
 intro pins s σ H Q I h
 refine Subscript_ (thn (he pins s σ H _ I h) fun v s1 ⟨x,H1,I1,r1,q1⟩=>?_)
 refine wpAny_Slice (thn (hl pins s1 σ H1 _ I1 q1) fun vl s2 ⟨l,H2,I2,pl,q2⟩=>thn (hu pins s2 σ H2 _ I2 q2) fun vu s3 ⟨u,H3,I3,pu,q3⟩=>?_)
 rw [evalPart_none]
 refine wpAny_pure ?_
 have I4:Inv X pins σ H3 { s3 with heap:=s3.heap.push { cls:=.type "slice", data:=.fields #[vl,vu,.none] } }:=I3.kept (t':=s3.toks) fun b ob q=>Heap.get?_push_of_some _ q
 obtain ⟨T,id,hT,ht,hg⟩:=hr pins { s3 with heap:=s3.heap.push { cls:=.type "slice", data:=.fields #[vl,vu,.none] } } σ H3 x v vl vu l u s3.heap.objs.size Q I4 r1 (Heap.IsSliceOf.new ..) pl pu q3
 show wpAny (model X.prog X.w) X.A (subscriptTail e (.Slice lo hi none p2) v (.ref s3.heap.objs.size)) (EP X pins σ Q) X.xe { s3 with heap:=s3.heap.push { cls:=.type "slice", data:=.fields #[vl,vu,.none] } }
 exact tail_any (ops:=[.ref s3.heap.objs.size,v]) ht hT hg (by with_unfolding_all rfl)
def zJm (xs:List V) (lo hi:Option Int):List V:=(xs.drop (HT.sIx xs.length 0 lo)).take (HT.sIx xs.length xs.length hi - HT.sIx xs.length 0 lo)
theorem zAn (xs:List V) (lo hi:Option Int):(zJm xs lo hi).length<=xs.length:=by
 unfold zJm
 rw [List.length_take,List.length_drop]
 omega
def zKu (K:PySem.W.Frag):R2:=fun x y H Q=>∃ a b xs ys,x=.ref a/\y=.ref b/\SqT K H a xs/\SqT K H b ys/\xs≠[]/\xs.length+ys.length<=sizeLine/\
 (ys=[]->Q (.ref a) H)/\(ys≠[]->∀ p,H p=none->Q (.ref p) (upd H p (.tup (xs++ys))))
theorem cM.nil_iff {xs:List V} {us:List Value} (r:cM xs us):us=[] ↔ xs=[]:=by
 cases r with
 | nil=>simp
 | cons _ _=>simp
theorem zIG:OpR X (binaryOp .Add) (zKu X.K):=by
 intro pins s σ H x y v u Q I rx ry h
 obtain ⟨a,b,xs,ys,rfl,rfl,ha,hb,hx,hz,q1,q2⟩:=h
 cases rx
 cases ry
 obtain ⟨its,r1,p1,_⟩:=I.tuple ha
 obtain ⟨its2,r2,p2,_⟩:=I.tuple hb
 refine HT.cat_tup p1 p2 (fun z=>hx (r1.nil_iff.mp z)) (fun z=>⟨.ref a,H,I,rfl,q1 (r2.nil_iff.mp z)⟩) (fun z=>?_) (by rw [<-r1.length,<-r2.length];exact hz)
 refine ⟨.ref s.heap.objs.size,_,I.laid (t':=s.toks) (o:=.tup (xs++ys)) (fun b ob q=>Heap.get?_push_of_some _ q) (Nat.le_refl _) ?_,rfl,q2 (fun w=>z (r2.nil_iff.mpr w)) _ (I.hok.fresh (Nat.le_refl _))⟩
 exact ⟨by rw [List.length_append];exact hz,_,r1.append r2,IsTup.new _ _⟩
end
end L2
namespace L2
open PySem PySem.Spec PyProof.Rows
def ixN (n:Nat) (i:Int):Option Nat:=if 0<=i then (if i < n then some i.toNat else none) else if -(n:Int)<=i then some (i+n).toNat else none
def atI {α:Type} (xs:List α) (i:Int):Option α:=(ixN xs.length i).bind fun j=>xs[j]?
theorem zDg {n:Nat} {i:Int} {j:Nat} (h:ixN n i=some j):seqIndex? i n=some j/\j < n/\-(n:Int)<=i/\i < n:=by
 unfold ixN at h
 by_cases h0:0<=i
 ·rw [if_pos h0] at h
  by_cases h1:i < n
  ·rw [if_pos h1] at h
   have e:i.toNat=j:=Option.some.inj h
   exact ⟨by rw [seqIndex_of h0 h1,e],by omega,by omega,h1⟩
  ·rw [if_neg h1] at h;cases h
 ·rw [if_neg h0] at h
  by_cases h1:-(n:Int)<=i
  ·rw [if_pos h1] at h
   have e:(i+n).toNat=j:=Option.some.inj h
   exact ⟨by rw [seqIndex_neg (by omega) h1,e],by omega,h1,by omega⟩
  ·rw [if_neg h1] at h;cases h
theorem zDo {α:Type} {xs:List α} {i:Int} {v:α} (h:atI xs i=some v):∃ j,seqIndex? i xs.length=some j/\xs[j]?=some v/\j < xs.length/\-(xs.length:Int)<=i/\i < xs.length:=by
 unfold atI at h
 cases e:ixN xs.length i with
 | none=>rw [e] at h;cases h
 | some j=>
  rw [e] at h
  obtain ⟨h1,h2,h3,h4⟩:=zDg e
  exact ⟨j,h1,h,h2,h3,h4⟩
theorem zBa {α:Type} {xs:List α} {j:Nat} {v:α} (h:xs[j]?=some v):atI xs (j:Int)=some v:=by
 have hj:j < xs.length:=(List.getElem?_eq_some_iff.mp h).1
 have e:ixN xs.length (j:Int)=some j:=by
  unfold ixN
  rw [if_pos (by omega),if_pos (by omega)];simp
 unfold atI;rw [e];exact h
def zAw (b:Expr):Prop:=∀ o i,subscripted b false o i=operate [o,i] (getItem o i)
def IxR (X:Cx) (r:R2):Prop:=
 ∀ (value slice:Expr) (pins:List (Addr×Obj)) (s:Shared) (σ:St) (H:Hp) (x y:V) (v u:Value) (Q:VK),Inv X pins σ H s->cQ x v->cQ y u->r x y H Q->
  subscripted slice false v u=operate [v,u] (getItem v u)->wpAny (model X.prog X.w) X.A (subscriptTail value slice v u) (EP X pins σ Q) X.xe s
def MtR (X:Cx) (id:String) (r:V->List V->Hp->VK->Prop):Prop:=
 ∀ (pins:List (Addr×Obj)) (s:Shared) (σ:St) (H:Hp) (x:V) (xs:List V) (v:Value) (us:List Value) (Q:VK),Inv X pins σ H s->cQ x v->cM xs us->r x xs H Q->
  wpAny (model X.prog X.w) X.A (call (.builtin id) (v::us)) (EP X pins σ Q) X.xe s
section
variable {X:Cx} {a b:Expr} {ta tb:TE} {pos:Pos}
theorem IxR.or {r r':R2} (h:IxR X r) (h':IxR X r'):IxR X (fun x y H Q=>r x y H Q∨r' x y H Q):=by
 intro value slice pins s σ H x y v u Q I rx ry q hs
 rcases q with q | q
 ·exact h value slice pins s σ H x y v u Q I rx ry q hs
 ·exact h' value slice pins s σ H x y v u Q I rx ry q hs
theorem zCy {r:R2} (hr:IxR X r) (ha:PE X a ta) (hb:PE X b tb) (hs:zAw b):PE X (.Subscript a b pos) (tOp r ta tb):=by
 intro pins s σ H Q I h
 exact Subscript_ (zMp ha hb I h fun v u s2 x y H2 I2 rx ry q=>hr a b pins s2 σ H2 x y v u Q I2 rx ry q (hs _ _))
def zLy (K:PySem.W.Frag):R2:=fun x y H Q=>∃ p xs i v,x=.ref p/\y=.int i/\SqL K H p xs/\atI xs i=some v/\Q v H
def zLE (K:PySem.W.Frag):R2:=fun x y H Q=>∃ p xs i v,x=.ref p/\y=.int i/\SqT K H p xs/\atI xs i=some v/\Q v H
theorem zIq:IxR X (zLy X.K):=by
 intro value slice pins s σ H x y v u Q I rx ry h hs
 obtain ⟨p,xs,i,z,rfl,rfl,hq,he,q⟩:=h
 cases rx
 obtain ⟨t,rfl⟩:=ry
 obtain ⟨its,r,pl,hz⟩:=I.list hq
 obtain ⟨j,h1,h2,h3,h4,h5⟩:=zDo he
 obtain ⟨w,ew,rw'⟩:=r.get h2
 have hl:=r.length
 have hn:=zBo
 have fin:EP X pins σ Q w s:=⟨z,H,I,rw',q⟩
 by_cases h0:0<=i
 ·have hj:i.toNat=j:=by
   rw [seqIndex_of h0 h5] at h1
   exact Option.some.inj h1
  exact item_listR pl.isList h0 (by omega) (by rw [hj];simpa using ew) fin hs
 ·have hj:(i+(its.toArray.size:Int)).toNat=j:=by
   rw [seqIndex_neg (by omega) h4] at h1
   rw [List.size_toArray,<-hl]
   exact Option.some.inj h1
  exact subscriptTail_builtinR (x:=w) pl.isList.typeIs slot_list_getitem.lookup
   (wpAny_getItem_list_neg (Q:=fun r s'=>r=w/\EP X pins σ Q r s') pl.isList (by omega) (by rw [List.size_toArray]<;>omega) (by omega) (by rw [hj];simpa using ew) ⟨rfl,fin⟩) hs
theorem zKY:IxR X (zLE X.K):=by
 intro value slice pins s σ H x y v u Q I rx ry h hs
 obtain ⟨p,xs,i,z,rfl,rfl,hq,he,q⟩:=h
 cases rx
 obtain ⟨t,rfl⟩:=ry
 obtain ⟨its,r,pl,hz⟩:=I.tuple hq
 obtain ⟨j,h1,h2,h3,h4,h5⟩:=zDo he
 obtain ⟨w,ew,rw'⟩:=r.get h2
 have hl:=r.length
 have hn:=zBo
 have fin:EP X pins σ Q w s:=⟨z,H,I,rw',q⟩
 exact subscriptTail_builtinR (x:=w) pl.typeIs slot_tuple_getitem.lookup
  (getItem_tuple (j:=j) (Q:=fun r s'=>r=w/\EP X pins σ Q r s') pl (by omega) (by omega) (by rw [List.size_toArray,<-hl];exact h1) (by simpa using ew) ⟨rfl,fin⟩) hs
theorem zCt (its:List Value) (n j:Nat) (u:Value):Obj.mapSeq (·.setIfInBounds j u) { cls:=.type "list", data:=.seq its.toArray n }={ cls:=.type "list", data:=.seq (its.set j u).toArray n }:=by
 simp [Obj.mapSeq]
theorem Inv.lst {pins:List (Addr×Obj)} {σ:St} {H:Hp} {s:Shared} {p:Addr} {xs:List V} (I:Inv X pins σ H s) (h:H p=some (.lst xs)):
  ∃ (its:List Value) (n:Nat),cM xs its/\s.heap.get? p=some { cls:=.type "list", data:=.seq its.toArray n }/\xs.length<=sizeLine:=by
 obtain ⟨z,its,n,r,e⟩:=I.hok p _ h
 exact ⟨its,n,r,e,z⟩
theorem Inv.lstUpd {pins:List (Addr×Obj)} {σ:St} {H:Hp} {s:Shared} {p:Addr} {xs ys:List V} {its its':List Value} {n n':Nat} {f:Obj->Obj} (I:Inv X pins σ H s) (h:H p=some (.lst xs))
  (ho:s.heap.get? p=some { cls:=.type "list", data:=.seq its.toArray n }) (hf:f { cls:=.type "list", data:=.seq its.toArray n }={ cls:=.type "list", data:=.seq its'.toArray n' }) (r:cM ys its') (hz:ys.length<=sizeLine) (t:Nat):
  Inv X pins σ (upd H p (.lst ys)) { s with heap:=s.heap.update p f,toks:=t }:=by
 have e:(s.heap.update p f).get? p=some { cls:=.type "list", data:=.seq its'.toArray n' }:=by
  rw [Heap.get?_update_self f ho (by rw [hf]<;>rfl),hf]
 refine I.write (x:=p) (e:=p) (by rw [h];trivial) (.inl rfl) (fun b u hb q=>(Heap.get?_update_other _ _ (Ne.symm hb)).trans q) ⟨_,e⟩ ?_
 exact ⟨hz,its',n',r,e⟩
def zLJ:V->V->V->Hp->(Hp->Prop)->Prop:=fun o i v H Q=>∃ p xs k j,o=.ref p/\i=.int k/\H p=some (.lst xs)/\ixN xs.length k=some j/\Q (upd H p (.lst (xs.set j v)))
theorem zFS:zME X zLJ:=by
 intro pins s σ H o i v ov iv u Q I ro ri rv h
 obtain ⟨p,xs,k,j,rfl,rfl,hp,hj,q⟩:=h
 cases ro
 obtain ⟨t,rfl⟩:=ri
 obtain ⟨its,n,r,ho,hz⟩:=I.lst hp
 obtain ⟨h1,h2,h3,h4⟩:=zDg hj
 have hl:=r.length
 have hn:=zBo
 have I':Inv X pins σ (upd H p (.lst (xs.set j v))) { s with heap:=s.heap.update p (Obj.mapSeq (·.setIfInBounds j u)) }:=
  I.lstUpd hp ho (zCt its n j u) (r.set rv j) (by rw [List.length_set];exact hz) s.toks
 by_cases h0:0<=k
 ·have hk:k.toNat=j:=by
   rw [seqIndex_of h0 h4] at h1
   exact Option.some.inj h1
  exact PySem.W.ki_setAt ho h0 (by omega) (by rw [List.size_toArray,<-hl];exact h4) (by rw [hk];exact ⟨_,I',q⟩)
 ·have hk:(k+(its.toArray.size:Int)).toNat=j:=by
   rw [seqIndex_neg (by omega) h3] at h1
   rw [List.size_toArray,<-hl]
   exact Option.some.inj h1
  exact PySem.W.ki_setBack ho (by omega) (by rw [List.size_toArray,<-hl];exact h3) (by omega) (by rw [hk];exact ⟨_,I',q⟩)
theorem yB (lo hi:Option Int) (n:Nat):(sliceBounds lo hi none n).1=((HT.sIx n 0 lo:Nat):Int)/\(sliceBounds lo hi none n).2.1=((HT.sIx n n hi:Nat):Int)/\(sliceBounds lo hi none n).2.2=1:=by
 refine ⟨?_,?_,rfl⟩
 ·cases lo with
  | none=>simp [sliceBounds,HT.sIx]
  | some i=>
   simp only [sliceBounds,HT.sIx,Option.getD_none,show (1:Int) > 0 by decide,if_true]
   by_cases h:i < 0
   ·simp only [h,if_true]<;>omega
   ·simp only [h,if_false]<;>omega
 ·cases hi with
  | none=>simp [sliceBounds,HT.sIx]
  | some i=>
   simp only [sliceBounds,HT.sIx,Option.getD_none,show (1:Int) > 0 by decide,if_true]
   by_cases h:i < 0
   ·simp only [h,if_true]<;>omega
   ·simp only [h,if_false]<;>omega
theorem wR (its:List Value) (lo hi:Option Int):slicePick its.toArray lo hi none=((its.drop (HT.sIx its.length 0 lo)).take (HT.sIx its.length its.length hi - HT.sIx its.length 0 lo)).toArray:=by
 obtain ⟨h1,h2,h3⟩:=yB lo hi its.toArray.size
 unfold slicePick
 rw [h1,h2,h3]
 simp only [sliceRange_one,pick_run,List.size_toArray]<;>rfl
def zNv (K:PySem.W.Frag):V->Option Int->Option Int->Hp->VK->Prop:=fun x lo hi H Q=>∃ a xs,x=.ref a/\SqL K H a xs/\∀ p,H p=none->Q (.ref p) (upd H p (.lst (zJm xs lo hi)))
theorem zIP:SlR X (zNv X.K):=by
 intro pins s σ H x v vl vu lo hi sl Q I rx hs pl pu h
 obtain ⟨a,xs,rfl,hx,q⟩:=h
 cases rx
 obtain ⟨its,r,ht,hz⟩:=I.list hx
 have hlen:=r.length
 refine ⟨"list", _,slot_list_getitem.lookup,ht.isList.typeIs,?_⟩
 refine wpAny_getItem_list_slice ht.isList hs pl pu .none (by simp) ?_ (by rw [List.size_toArray]<;>omega)
 rw [wR,<-hlen]
 refine ⟨.ref s.heap.objs.size,_,I.laid (t':=s.toks) (o:=.lst (zJm xs lo hi)) (fun b ob q=>Heap.get?_push_of_some _ q) (Nat.le_refl _) ?_,rfl,q _ (I.hok.fresh (Nat.le_refl _))⟩
 exact ⟨Nat.le_trans (zAn xs lo hi) hz,_,0,(r.drop (HT.sIx xs.length 0 lo)).take (HT.sIx xs.length xs.length hi - HT.sIx xs.length 0 lo),Heap.get?_push_size _ rfl⟩
theorem aR:sY X (.builtin "len") (fun xs H Q=>∃ p ys,xs=[.ref p]/\(SqL X.K H p ys∨SqT X.K H p ys)/\Q (.int ys.length) H):=by
 intro pins s σ H xs us Q I r h
 obtain ⟨p,ys,rfl,hq,q⟩:=h
 obtain ⟨u,rfl,rx⟩:=zCz r
 cases rx
 have hn:=zBo
 rcases hq with hq | hq
 ·obtain ⟨its,r',pl,hz⟩:=I.list hq
  have hlen:=r'.length
  exact Calls.call_len_list pl.isList (by simp only [List.size_toArray]<;>omega) ⟨.int ys.length,H,I.tok _,⟨s.toks+1,by rw [List.size_toArray,hlen]⟩,q⟩
 ·obtain ⟨its,r',pl,hz⟩:=I.tuple hq
  have hlen:=r'.length
  exact len_tuple pl (by simp only [List.size_toArray]<;>omega) ⟨.int ys.length,H,I.tok _,⟨s.toks+1,by rw [List.size_toArray,hlen]⟩,q⟩
theorem yJ:sY X (.type "list") (fun xs H Q=>∃ p ys,xs=[.ref p]/\(SqL X.K H p ys∨SqT X.K H p ys)/\∀ l,H l=none->Q (.ref l) (upd H l (.lst ys))):=by
 intro pins s σ H xs us Q I r h
 obtain ⟨p,ys,rfl,hq,q⟩:=h
 obtain ⟨u,rfl,rx⟩:=zCz r
 cases rx
 have fin:∀ (its:List Value),cM ys its->ys.length<=sizeLine->∀ (h':Heap) (c':Nat),(∀ b o',s.heap.get? b=some o'->h'.get? b=some o')->
   h'.get? s.heap.objs.size=some { cls:=.type "list", dict:=none,data:=.seq its.toArray c',slots:=#[] }->EP X pins σ Q (.ref s.heap.objs.size) { s with heap:=h' }:=fun its r' hz h' c' kp e=>
  ⟨.ref s.heap.objs.size,_,I.laid (t':=s.toks) kp (Nat.le_refl _) (show iP X.prog X.w _ h' _ (.lst ys) from ⟨hz,its,c',r',e⟩),rfl,q _ (I.hok.fresh (Nat.le_refl _))⟩
 rcases hq with hq | hq
 ·obtain ⟨its,r',pl,hz⟩:=I.list hq
  have hlen:=r'.length
  obtain ⟨o,ho,hc,n,hd⟩:=pl.isList
  exact call_list_seq p (.inl rfl) ho hc hd (fun h' c' kp e=>fin its r' hz h' c' kp e) (by simp only [List.size_toArray]<;>omega)
 ·obtain ⟨its,r',pl,hz⟩:=I.tuple hq
  have hlen:=r'.length
  obtain ⟨o,ho,hc,n,hd⟩:=pl
  exact call_list_seq p (.inr rfl) ho hc hd (fun h' c' kp e=>fin its r' hz h' c' kp e) (by simp only [List.size_toArray]<;>omega)
theorem jA:sY X (.type "tuple") (fun xs H Q=>∃ p ys,xs=[.ref p]/\((SqL X.K H p ys/\∀ l,H l=none->Q (.ref l) (upd H l (.tup ys)))∨(SqT X.K H p ys/\Q (.ref p) H))):=by
 intro pins s σ H xs us Q I r h
 obtain ⟨p,ys,rfl,h⟩:=h
 obtain ⟨u,rfl,rx⟩:=zCz r
 cases rx
 rcases h with ⟨hq,q⟩ | ⟨hq,q⟩
 ·obtain ⟨its,r',pl,hz⟩:=I.list hq
  have hlen:=r'.length
  refine call_tuple_list pl.isList (fun h' kp=>?_) (by simp only [List.size_toArray]<;>omega)
  have I1:Inv X pins σ H { s with heap:=h' }:=I.kept (t':=s.toks) kp
  have I2:Inv X pins σ (upd H h'.objs.size (.tup ys)) { s with heap:=h'.push { cls:=.type "tuple", data:=.seq its.toArray } }:=
   I1.laid (t':=s.toks) (fun b o e=>Heap.get?_push_of_some _ e) (Nat.le_refl _) (show iP X.prog X.w _ _ _ (.tup ys) from ⟨hz,its,r',IsTup.new _ _⟩)
  exact ⟨.ref h'.objs.size,_,I2,rfl,q _ (I1.hok.fresh (Nat.le_refl _))⟩
 ·obtain ⟨its,r',pl,hz⟩:=I.tuple hq
  exact call_tuple_same pl ⟨.ref p,H,I,rfl,q⟩
def tyV (K:PySem.W.Frag) (T:String) (x:V) (H:Hp):Prop:=match x with
 | .str _=>T = "str"
 | .int _=>T = "int"
 | .ref p=>(T = "list" /\ ∃ xs,SqL K H p xs)∨(T = "tuple" /\ ∃ o,K.lookup p=some o/\o.cls=.type "tuple" /\ o.dict=none)∨
   (T = "dict" /\ ((∃ kvs,H p=some (.dK kvs))∨∃ kvs,H p=some (.dT kvs)))∨(T = "set" /\ ∃ S n,H p=some (.set S n))
 | _=>False
theorem zHl {pins:List (Addr×Obj)} {σ:St} {H:Hp} {s:Shared} {T:String} {x:V} {v:Value} (I:Inv X pins σ H s) (r:cQ x v) (ty:tyV X.K T x H):
  s.TypeIs v T/\∀ a,v=.ref a->∃ ob,s.heap.get? a=some ob/\ob.dict=none:=by
 cases x with
 | str z=>
  obtain ⟨t,rfl⟩:=r
  cases (show T = "str" from ty)
  exact ⟨typeIs_str s z t,fun _ e=>nomatch e⟩
 | int i=>
  obtain ⟨t,rfl⟩:=r
  cases (show T = "int" from ty)
  exact ⟨typeIs_int s i t,fun _ e=>nomatch e⟩
 | ref p=>
  cases r
  rcases ty with ⟨rfl,xs,hq⟩ | ⟨rfl,o,hk,hc,hd⟩ | ⟨rfl,hk⟩ | ⟨rfl,S,n,hk⟩
  ·obtain ⟨its,_,pl,_⟩:=I.list hq
   refine ⟨pl.isList.typeIs,fun a e=>?_⟩
   cases e
   obtain ⟨o,n,e,c,hd,_⟩:=pl
   exact ⟨o,e,hd⟩
  ·refine ⟨⟨o,I.kIn p o hk,hc⟩,fun a e=>?_⟩
   cases e
   exact ⟨o,I.kIn _ o hk,hd⟩
  ·have z:∃ o,s.heap.get? p=some o/\o.ExactDict:=by
    rcases hk with ⟨kvs,hk⟩ | ⟨kvs,hk⟩
    ·obtain ⟨_,_,_,_,o,_,_,e,ex,_⟩:=I.hok p _ hk
     exact ⟨o,e,ex⟩
    ·obtain ⟨_,_,_,_,o,_,_,e,ex,_⟩:=I.hok p _ hk
     exact ⟨o,e,ex⟩
   obtain ⟨o,e,ex⟩:=z
   refine ⟨⟨o,e,ex.1⟩,fun a e2=>?_⟩
   cases e2
   exact ⟨o,e,ex.2.1⟩
  ·obtain ⟨o,_,_,_,e,ex,_⟩:=I.hok p _ hk
   refine ⟨⟨o,e,ex.1⟩,fun a e2=>?_⟩
   cases e2
   exact ⟨o,e,ex.2.1⟩
 | _=>exact False.elim ty
abbrev zNr (K:PySem.W.Frag) (T:String) (r:V->List V->Hp->VK->Prop) (to:TE):TE:=fun σ H Q=>to σ H fun x H1=>tyV K T x H1/\r x [] H1 Q
abbrev tBM (K:PySem.W.Frag) (T:String) (r:V->List V->Hp->VK->Prop) (to:TE) (t:TA):TE:=fun σ H Q=>to σ H fun x H1=>tyV K T x H1/\t σ H1 fun xs H2=>r x xs H2 Q
variable {o e:Expr} {es:List Expr} {to:TE} {t:TA} {name:Str} {apos cpos:Pos} {T id:String} {r:V->List V->Hp->VK->Prop}
theorem zKm (pa:PlainAttrs T) (slot:Slot T name id) (hty:typeOf (.builtin id)=pure (.type "method_descriptor")) (hm:MtR X id r) (ho:PE X o to)
  (hbase:attributeBase o name X.env (eval o X.env)=eval o X.env:=by rfl) (hline:(apos.endLine==cpos.line)=true:=by rfl):PE X (.Call (.Attribute o name apos) [] [] cpos) (zNr X.K T r to):=by
 intro pins s σ H Q I h
 refine wpAny_Call_method0_late hbase hline (thn (ho pins s σ H _ I h) fun v s1 ⟨x,H1,I1,r1,ty,q1⟩=>?_)
 obtain ⟨h1,h2⟩:=zHl I1 r1 ty
 exact ⟨T,id,pa,slot,hty,h1,h2,Calls.callWith_builtin rfl (PySem.evalArgs_none (hm pins s1 σ H1 x [] v [] Q I1 r1 .nil q1))⟩
theorem zLS (pa:PlainAttrs T) (slot:Slot T name id) (hty:typeOf (.builtin id)=pure (.type "method_descriptor")) (hm:MtR X id r) (ho:PE X o to) (ha:PA X (e::es) t)
  (hbase:attributeBase o name X.env (eval o X.env)=eval o X.env:=by rfl)
  (hfew:((backTo cpos (starEach (e::es) X.env)).all (fun x=>!x.1) && (backToKw cpos (keywordEach [] X.env)).all (fun x=>x.1.isSome)
   && decide ((e::es).length+([]:List Keyword).length+(if ([]:List Keyword).isEmpty then 0 else 1) < 30))=true:=by rfl)
  (hline:(apos.endLine==cpos.line)=true:=by rfl) (hs:starEach (e::es) X.env=(false,eval e X.env)::starEach es X.env:=by rfl) (hplain:(backTo cpos (starEach es X.env)).any (·.1)=false:=by rfl):
  PE X (.Call (.Attribute o name apos) (e::es) [] cpos) (tBM X.K T r to t):=by
 intro pins s σ H Q I h
 refine wpAny_Call_method_late hbase hfew hline rfl (thn (ho pins s σ H _ I h) fun v s1 ⟨x,H1,I1,r1,ty,q1⟩=>?_)
 obtain ⟨h1,h2⟩:=zHl I1 r1 ty
 refine ⟨T,id,pa,slot,hty,h1,h2,?_⟩
 have hA:=ha cpos pins s1 σ H1 _ I1 q1
 rw [hs] at hA ⊢
 refine Calls.callWith_builtin (by show (false || (backTo cpos (starEach es X.env)).any (·.1))=false;rw [hplain]<;>rfl) (Calls.evalArgs_plain ?_)
 exact thn hA fun us s2 ⟨vs,H2,I2,r2,q2⟩=>hm pins s2 σ H2 x vs v us Q I2 r1 r2 q2
end
end L2
namespace L2
open PySem PySem.Spec PyProof.Rows
def MtM (X:Cx) (id:String) (r:V->List V->Hp->VK->Prop):Prop:=
 ∀ (pins:List (Addr×Obj)) (s:Shared) (σ:St) (H:Hp) (x:V) (xs:List V) (v:Value) (us:List Value) (Q:VK),Inv X pins σ H s->cQ x v->cM xs us->r x xs H Q->
  wpAny (model X.prog X.w) X.A (call (.builtin id) (v::us)) (EP X pins σ Q) X.xe s
theorem cM.one:∀ {x:V} {us:List Value},cM [x] us->∃ u,us=[u]/\cQ x u
 | _,_,.cons r .nil=>⟨_,rfl,r⟩
theorem cM.zero:∀ {us:List Value},cM [] us->us=[]
 | _,.nil=>rfl
theorem cM.dropLast {xs:List V} {us:List Value} (h:cM xs us):cM xs.dropLast us.dropLast:=by
 induction h with
 | nil=>exact .nil
 | cons r t ih=>
  cases t with
  | nil=>exact .nil
  | cons q t'=>exact .cons r ih
theorem cM.rep {xs:List V} {us:List Value} (h:cM xs us):∀ k:Nat,cM (List.replicate k xs).flatten (List.replicate k us).flatten
 | 0=>.nil
 | k+1=>by
  rw [List.replicate_succ,List.replicate_succ,List.flatten_cons,List.flatten_cons]
  exact cM.append h (cM.rep h k)
theorem zCA {α:Type} (l:List α):l.eraseIdx (l.length - 1)=l.dropLast:=by
 induction l with
 | nil=>rfl
 | cons a r ih=>
  cases r with
  | nil=>rfl
  | cons b r=>
   have e:(a::b::r).length - 1=((b::r).length - 1)+1:=by
    have h1:(a::b::r).length=r.length+2:=rfl
    have h2:(b::r).length=r.length+1:=rfl
    omega
   rw [e,List.eraseIdx_cons_succ,ih]
   all_goals rfl
theorem xR (its:List Value):∀ (k:Nat) (acc:List Value),
  List.foldl (fun x1 x2=>x1++x2) acc.toArray (List.replicate k its.toArray)=(acc++(List.replicate k its).flatten).toArray
 | 0,acc=>by simp
 | k+1,acc=>by
  have e:acc.toArray++its.toArray=(acc++its).toArray:=by simp
  have e2:(acc++its)++(List.replicate k its).flatten=acc++(List.replicate (k+1) its).flatten:=by
   rw [List.replicate_succ,List.flatten_cons,List.append_assoc]
  rw [<-e2,<-xR its k (acc++its),<-e,List.replicate_succ,List.foldl_cons]
section
variable {X:Cx} {pins:List (Addr×Obj)} {σ:St} {H:Hp} {s:Shared} {l b:Addr} {xs ys zs:List V}
theorem Inv.lset {its its':List Value} {n:Nat} {f:Array Value->Array Value} {t':Nat} (I:Inv X pins σ H s) (hH:H l=some (.lst xs))
  (e:s.heap.get? l=some { cls:=.type "list", data:=.seq its.toArray n }) (hf:f its.toArray=its'.toArray) (hv:cM ys its') (hz:ys.length<=sizeLine):
  Inv X pins σ (upd H l (.lst ys)) { s with heap:=s.heap.update l (Obj.mapSeq f),toks:=t' }:=by
 have q:=PySem.IsL.update e f
 rw [hf] at q
 refine I.write (x:=l) (e:=l) (by rw [hH];exact trivial) (.inl rfl) (fun b' u hb hu=>(Heap.get?_update_other s.heap (Obj.mapSeq f) (Ne.symm hb)).trans hu) ⟨_,q⟩ ?_
 exact ⟨hz,its',_,hv,q⟩
theorem Inv.lnew {its:List Value} {t':Nat} (I:Inv X pins σ H s) (hv:cM ys its) (hz:ys.length<=sizeLine):
  Inv X pins σ (upd H s.heap.objs.size (.lst ys)) { s with heap:=s.heap.push { cls:=.type "list", data:=.seq its.toArray },toks:=t' }:=
 I.laid (fun _ _ q=>Heap.get?_push_of_some _ q) (Nat.le_refl _) ⟨hz,its,0,hv,Heap.get?_push_size _ rfl⟩
theorem Inv.fresh (I:Inv X pins σ H s):H s.heap.objs.size=none:=I.hok.fresh (Nat.le_refl _)
theorem Inv.lstM (I:Inv X pins σ H s) (hH:H l=some (.lst xs)):xs.length<=sizeLine/\∃ (its:List Value) (n:Nat),cM xs its/\xs.length=its.length/\s.heap.get? l=some { cls:=.type "list", data:=.seq its.toArray n }:=by
 obtain ⟨z,its,n,r,e⟩:=I.hok l _ hH
 exact ⟨z,its,n,r,r.length,e⟩
theorem zFO {n:Nat} (h:n<=sizeLine):Builtin.List.listTooLong n=false:=by
 unfold Builtin.List.listTooLong
 exact decide_eq_false (by omega)
end
section
variable {X:Cx}
def zIL:V->List V->Hp->VK->Prop:=fun x vs H Q=>∃ l xs y,x=.ref l/\vs=[y]/\H l=some (.lst xs)/\xs.length < sizeLine/\Q .non (upd H l (.lst (xs++[y])))
theorem qQ:MtM X "list.append" zIL:=by
 intro pins s σ H x vs v us Q I rx rv h
 obtain ⟨l,xs,y,rfl,rfl,hH,hz,q⟩:=h
 cases rx
 obtain ⟨u,rfl,ru⟩:=rv.one
 obtain ⟨z,its,n,r,hl,e⟩:=I.lstM hH
 refine call_meets F.slot_list_append ⟨_,e,rfl⟩ F.entry_list_append (F.args_list_append_2 _ _) (PySem.list_append l its.toArray n u (by rw [List.size_toArray];omega)) ⟨e,?_⟩
 refine ⟨.non,_,I.lset (its':=its++[u]) hH e (by simp) (r.append (.cons ru .nil)) ?_,rfl,q⟩
 rw [List.length_append,List.length_singleton]
 omega
def zNl:V->List V->Hp->VK->Prop:=fun x vs H Q=>∃ l xs y,x=.ref l/\vs=[]/\H l=some (.lst xs)/\xs[xs.length - 1]?=some y/\Q y (upd H l (.lst xs.dropLast))
theorem zLu:MtM X "list.pop" zNl:=by
 intro pins s σ H x vs v us Q I rx rv h
 obtain ⟨l,xs,y,rfl,rfl,hH,hy,q⟩:=h
 cases rx
 have hus:=rv.zero
 subst hus
 obtain ⟨z,its,n,r,hl,e⟩:=I.lstM hH
 obtain ⟨u,hu,ru⟩:=r.get hy
 have hy':its.toArray[its.toArray.size - 1]?=some u:=by
  show its.toArray[its.length - 1]?=some u
  rw [<-Array.getElem?_toList,<-hl]
  exact hu
 refine call_meets F.slot_list_pop ⟨_,e,rfl⟩ F.entry_list_pop (F.args_list_pop_1 _) (MeetsSeq.list_pop_last l its.toArray n u hy' (by rw [List.size_toArray];omega)) ⟨e,?_⟩
 refine ⟨y,_,I.lset (its':=its.dropLast) hH e ?_ r.dropLast ?_,ru,q⟩
 ·show its.toArray.eraseIdxIfInBounds (its.toArray.size - 1)=its.dropLast.toArray
  rw [List.size_toArray,List.eraseIdxIfInBounds_toArray,zCA]
 ·rw [List.length_dropLast]
  omega
def zNh:R2:=fun x y H Q=>∃ l k xs,x=.ref l/\y=.int k/\H l=some (.lst xs)/\-(2^63)<=k/\k < 2^63/\xs.length * k.toNat<=sizeLine/\
 ∀ p,H p=none->Q (.ref p) (upd H p (.lst (List.replicate k.toNat xs).flatten))
theorem zIf {α:Type} (xs:List α) (k:Nat):(List.replicate k xs).flatten.length=k * xs.length:=by
 induction k with
 | zero=>simp
 | succ k ih=>rw [List.replicate_succ,List.flatten_cons,List.length_append,ih,Nat.succ_mul,Nat.add_comm]
theorem zJD:OpR X (binaryOp .Mult) zNh:=by
 intro pins s σ H x y v u Q I rx ry h
 obtain ⟨l,k,xs,rfl,rfl,hH,h1,h2,hz,q⟩:=h
 cases rx
 obtain ⟨t,rfl⟩:=ry
 obtain ⟨z,its,n,r,hl,e⟩:=I.lstM hH
 have hlen:its.toArray.size * k.toNat<=sizeLine:=by rw [List.size_toArray,<-hl];exact hz
 have hcap:¬ its.toArray.size * k.toNat > (2^63 - 1) / 8:=by
  have:(sizeLine:Nat)<=(2^63 - 1) / 8:=by decide
  omega
 have hfit:¬ (!Builtin.List.listFitsIndex k)=true:=by
  rw [fitsIndex_both h1 h2]
  exact Bool.false_ne_true
 have hlong:¬ Builtin.List.listTooLong (its.toArray.size * k.toNat)=true:=by
  rw [zFO hlen]
  exact Bool.false_ne_true
 have hnew:List.foldl (fun x1 x2=>x1++x2) #[] (List.replicate (if its.toArray.isEmpty=true then 0 else k.toNat) its.toArray)=(List.replicate k.toNat its).flatten.toArray:=by
  have f0:∀ m:Nat,List.foldl (fun x1 x2=>x1++x2) #[] (List.replicate m its.toArray)=(List.replicate m its).flatten.toArray:=fun m=>by
   have:=xR its m []
   rw [List.nil_append] at this
   exact this
  rw [f0]
  cases its with
  | nil=>simp
  | cons a r'=>rw [if_neg (by simp)]
 refine wpAny_binaryOp_repeat_ref (T := "list") (U := "int") (by decide) ⟨_,e,rfl⟩ (fun s'=>typeIs_int s' k t) noFill_list_mul F.fills_int_mul F.slot_int_rmul repeat_list F.slot_int_index.lookup
  (call_meets F.slot_int_rmul (typeIs_int s k t) F.entry_int_rmul (F.args_int_rmul_2 _ _) (int___rmul___int_list k t l its.toArray n)
   ⟨e,rfl,⟨_,e,rfl⟩,call_meets F.slot_list_mul ⟨_,e,rfl⟩ F.entry_list_mul (F.args_list_mul_2 _ _) (AutoListH.list___mul___list_int_3 l its.toArray n k t hfit hcap hlong) ⟨e,?_⟩⟩)
 rw [hnew]
 exact ⟨.ref _,_,I.lnew (t':=s.toks) (r.rep k.toNat) (by rw [zIf,Nat.mul_comm];exact hz),rfl,q _ I.fresh⟩
end
section
variable {prog:Program} {w:World} {A:Around} {E:Value->Shared->Prop} {s:Shared}
set_option maxRecDepth 100000 in
end
section
variable {X:Cx}
end
end L2
namespace Att
open PySem PySem.W PySem.Calls PyProof.Rows
theorem rB {P:Params} {h:Heap}:∀ (ns:List Int) (vs:List Value),WellAll P h vs (ns.map WData.int)->IntsAre vs ns:=by
 intro ns
 induction ns with
 | nil=>
  intro vs w
  rw [List.map_nil] at w
  cases w
  exact .nil
 | cons n ns ih=>
  intro vs w
  rw [List.map_cons] at w
  cases w with
  | cons a b=>
   cases a
   exact .cons _ _ (ih _ b)
theorem script_of {l:OpenLaw} {n:Nat} (hn:l.most=some n) {P:Params} {h:Heap} {args:List WData} {vals:List Value}
  (hpre:l.row.toRowW.claim.pre args=true) (hwl:WellAll P h vals args):
  ∃ a vs ns,vals=[Value.ref a]/\args=[WData.list (ns.map WData.int)]/\h.get? a=some { cls:=.type "list", data:=.seq vs.toArray }/\IntsAre vs ns/\ns.length<=n:=by
 have hsh:WShape.hasAll [] args [.list .int]=true:=(pre_splitW hpre).1
 have hc:l.pre.holds [] { args:=args }=true:=(pre_splitW hpre).2
 obtain ⟨d,r,rfl,h1,h2⟩:=hasAllW_cons hsh
 obtain rfl:=hasAllW_nil h2
 obtain ⟨xs,rfl,h3⟩:=hasW_list h1
 obtain ⟨ns,rfl⟩:=items_int h3
 have hlen:ns.length<=n:=by
  unfold OpenLaw.pre at hc
  have h4:(WTm.not (.lt (.lit (.int (n:Int))) (.len (.arg 0)))).holds [] { args:=[.list (ns.map .int)] }=true:=by
   have h4:=(holds_andW hc).1
   rw [hn] at h4
   exact h4
  have h5:=condW_of h4 (w_not (w_lt w_lit (w_len_list (w_arg rfl))))
  rw [List.length_map] at h5
  refine Nat.le_of_not_lt fun q=>?_
  have q':(n:Int) < ((ns.length:Nat):Int):=by omega
  first
   | (rw [decide_eq_true q'] at h5;exact absurd h5 (by decide))
   | (simp at h5;omega)
 cases hwl with
 | cons w1 w2=>
  cases w2
  cases w1 with
  | list ho hall=>exact ⟨_,_,ns,rfl,rfl,ho,rB ns _ hall,hlen⟩
theorem post_true (l:OpenLaw) (args:List WData):l.row.toRowW.claim.post args (.bool true) args=true:=
 postW_of (r:=l.row.toRowW) (X:=(true==true))
  (show WShape.has [] (.bool true) .bool=true by first | rfl | decide | simp [WShape.has,WShape.arms,WShape.armsAll])
  (show (WTm.eq .res (.lit (.bool true))).value [] { args:=args,res:=some (.bool true),after:=args }=some (.bool (true==true)) from w_eq_bool (w_res rfl) w_lit) rfl
section
variable {prog:Program} {w:World} {A:Around} {E:Value->Shared->Prop} {s:Shared} {K:Frag}
end
end Att
namespace L2
open PySem PySem.Spec PyProof.Rows
theorem xS:∀ {vs:List Value} {ns:List Int},IntsAre vs ns->cM (ns.map V.int) vs
 | _,_,.nil=>.nil
 | _,_,.cons n t h=>.cons ⟨t,rfl⟩ (xS h)
def zNx (H:Hp):Prop:=∀ b,H b=none∨∃ o xs,H b=some (.frz o (.lst xs))
end L2
namespace L2
open PySem PySem.Spec PyProof.Rows
end L2
namespace L2
open PySem PySem.Spec PyProof.Rows
def iH (s:Stmt):Arguments:=match s with
 | .FunctionDef _ a _ _ _ _ _ _ _ _=>a
 | _=>{ posonlyargs:=[],args:=[],vararg:=none,kwonlyargs:=[],kw_defaults:=[],kwarg:=none,defaults:=[] }
def eM (s:Stmt):List Stmt:=match s with
 | .FunctionDef _ _ b _ _ _ _ _ _ _=>b
 | _=>[]
def aJ (s:Stmt):Scope:=match s with
 | .FunctionDef _ _ _ _ _ _ sc _ _ _=>sc
 | _=>{ kind:=.function,names:=[],isGenerator:=false,isCoroutine:=false }
structure Fun (K:PySem.W.Frag) (x qual:Str) (st:Stmt) (f:Addr) (fd:FuncData):Prop where
 ex:∃ (oc:Value) (od:Option Addr) (kV doc pm:Value) (an:Option Addr) (cdv ct:Value) (osl:Array (Option Value)),
  fd=PySem.W.fnOf x qual (iH st) (eM st) (aJ st) .none kV doc pm an cdv ct/\K.lookup f=some ⟨oc,od,.func fd,osl⟩/\PySem.W.codeIn K cdv qual=true
 kp:PySem.W.keepIn K (.ref f)=true
section
variable {P:Program} {w:World} {K:PySem.W.Frag} {mg:Str->Option Value} {base:Heap}
theorem Fun.binds {x qual:Str} {st:Stmt} {f:Addr} {fd:FuncData} {ps:List Str} (F:Fun K x qual st f fd)
  (h:∀ (kV doc pm:Value) (an:Option Addr) (cdv ct:Value) (us:List Value),us.length=ps.length->bindArgs (PySem.W.fnOf x qual (iH st) (eM st) (aJ st) .none kV doc pm an cdv ct) ⟨us,[]⟩=pure (ps.zip us)):xG K fd ps []:=by
 obtain ⟨oc,od,kV,doc,pm,an,cdv,ct,osl,rfl,lk,hcd⟩:=F.ex
 exact .all (h kV doc pm an cdv ct)
theorem uI {x qual:Str} {st:Stmt} {f:Addr} {oc:Value} {od an:Option Addr} {osl:Array (Option Value)} {kV doc pm cdv ct:Value} (l:K.lookup f=some ⟨oc,od,.func (PySem.W.fnOf x qual (iH st) (eM st) (aJ st) .none kV doc pm an cdv ct),osl⟩)
  (c:PySem.W.codeIn K cdv qual=true) (k:PySem.W.keepIn K (.ref f)=true):Fun K x qual st f (PySem.W.fnOf x qual (iH st) (eM st) (aJ st) .none kV doc pm an cdv ct):=⟨⟨oc,od,kV,doc,pm,an,cdv,ct,osl,rfl,l,c⟩,k⟩
end
section
variable {X:Cx}
theorem pv (i:Nat) {x:Str} {pos:Pos} (hN:X.N[i]?=some x:=by rfl) (hv:Vis X.env.scope x:=by first | exact Or.inl rfl | exact Or.inr (Or.inl rfl) | exact Or.inr (Or.inr rfl)) (hd:(x==("__debug__" : Str))=false:=by decide)
  (hcd:(x==("__classdict__" : Str))=false:=by decide):PE X (.Name x pos) (zCK i):=qW hN hv hd hcd
end
def Same (H H':Hp):Prop:=∀ b o,H b=some o->H' b=some o
theorem Same.refl (H:Hp):Same H H:=fun _ _ h=>h
theorem Same.trans {H H1 H2:Hp} (a:Same H H1) (b:Same H1 H2):Same H H2:=fun c o h=>b c o (a c o h)
end L2
set_option maxHeartbeats 4000000
set_option exponentiation.threshold 20000
namespace L2
open PySem PySem.Spec PyProof.Rows
section
variable {X:Cx}
variable {tg:Expr}
end
end L2
namespace L2
open PySem PySem.Spec PyProof.Rows
end L2
namespace L2
open PySem PySem.Spec PyProof.Rows
section
variable {P:Program} {w:World} {H H':Hp} {h:Heap} {a:Addr} {o:HO}
theorem iP.here (x:iP P w H h a o):∃ ob,h.get? a=some ob:=by
 cases o with
 | lst xs=>obtain ⟨_,_,_,_,e⟩:=x;exact ⟨_,e⟩
 | tup xs=>obtain ⟨_,_,_,e⟩:=x;obtain ⟨ob,e,_⟩:=e;exact ⟨_,e⟩
 | dK kvs=>obtain ⟨_,_,_,_,e⟩:=x;obtain ⟨ob,_,_,e,_⟩:=e;exact ⟨_,e⟩
 | dT kvs=>obtain ⟨_,_,_,_,ob,_,_,e,_⟩:=x;exact ⟨_,e⟩
 | set S n=>obtain ⟨ob,_,_,_,e,_⟩:=x;exact ⟨_,e⟩
 | ins C dx fs=>obtain ⟨_,_,_,e,_⟩:=x;exact ⟨_,e⟩
 | own y=>exact x
 | xd fs=>obtain ⟨_,⟨ob,_,_,e,_⟩,_⟩:=x;exact ⟨_,e⟩
 | met f y=>exact ⟨_,x⟩
 | rng lo hi=>obtain ⟨_,_,_,e⟩:=x;exact ⟨_,e⟩
 | frz ob u=>exact ⟨_,x.1⟩
 | tbl ps=>exact ⟨_,x⟩
 | ext φ=>exact x.2.1
theorem HOk.none_of (ok:HOk P w H h) (e:h.get? a=none):H a=none:=by
 cases q:H a with
 | none=>rfl
 | some o=>
  obtain ⟨ob,z⟩:=(ok a o q).here
  rw [e] at z;cases z
end
structure Fly (P:Program) (w:World) (l:List Env) (H H':Hp) (s:Shared) (ea:Addr) (cls:Value) (s':Shared):Prop where
 os:s'.os=s.os
 bare:AllBare s'.gens
 un:Un (frs l) [] H H' s.heap s'.heap
 hok:HOk P w H' s'.heap
 ne:H' ea=none
 new:s.heap.get? ea=none
 fly:∃ B a0,Heap.FlyingW B l ea cls a0 s'.heap/\(∀ b o,s'.heap.get? b=some o->((∃ o',s.heap.get? b=some o')∨H' b≠none)->b∉frs l->B.get? b=some o)
def CX1 (P:Program) (w:World):CXT:=fun outer H s E e s'=>∃ ea cls H',e=.ref ea/\Fly P w outer H H' s ea cls s'/\E cls none H'
structure Own (X:Cx):Prop where
 stk:X.stack=X.env::X.outer
 fr:X.env.frame=some X.env.locals
 ex:X.ex=[]
section
variable {X:Cx} {pins:List (Addr×Obj)} {σ:St} {H H':Hp} {s s':Shared} {ea:Addr} {cls:Value}
theorem zBK (O:Own X):frs X.stack=X.env.locals::X.fs:=by
 rw [O.stk]
 show List.filterMap _ (_::_)=_
 rw [List.filterMap_cons,O.fr]
 rfl
theorem Inv.there0 (I:Inv X pins σ H s) (O:Own X) {b:Addr} {o:Obj} (e:X.s₀.heap.get? b=some o):∃ o',s.heap.get? b=some o':=I.base.there b o e (by rw [O.ex];simp)
theorem Inv.ne0 (I:Inv X pins σ H s) {b:Addr} {o:Obj} (e:X.s₀.heap.get? b=some o):b≠X.env.locals:=Nat.ne_of_lt (Nat.lt_of_lt_of_le (Heap.lt_size e) I.ok.above)
theorem Fly.leave (I:Inv X pins σ H s) (O:Own X) (F:Fly X.prog X.w X.stack H H' s ea cls s') {h':Heap} {B:Heap} {a0:Value}
  (hf:Heap.FlyingW B X.stack ea cls a0 s'.heap) (cov:∀ b o,s'.heap.get? b=some o->((∃ o',s.heap.get? b=some o')∨H' b≠none)->b∉frs X.stack->B.get? b=some o)
  (hf':Heap.FlyingW B X.outer ea cls a0 h') (up:s'.heap.UpToSlots h'):Fly X.prog X.w X.outer X.H₀ H' X.s₀ ea cls { s' with heap:=h' }:=by
 have fst:frs X.stack=X.env.locals::X.fs:=zBK O
 have nin:∀ {b:Addr},b≠X.env.locals->b∉X.fs->b∉frs X.stack:=fun h1 h2=>by rw [fst];simp [h1,h2]
 have trk:∀ {b:Addr},H' b≠none->b∉frs X.stack:=fun {b} hb hm=>by
  have h1:=I.stkFree b hm
  obtain ⟨_,o,ho,_⟩:=I.stack.mem hm
  exact hb (F.un.free b o ho h1 (by simp))
 have keepB:∀ {b:Addr} {o:Obj},s'.heap.get? b=some o->((∃ o',s.heap.get? b=some o')∨H' b≠none)->b∉frs X.stack->h'.get? b=some o:=fun e1 e2 e3=>hf'.1 _ _ (cov _ _ e1 e2 e3)
 have slotOf:∀ {b:Addr} {o:Obj},b∈frs X.stack->s'.heap.get? b=some o->∃ sl,h'.get? b=some { o with slots:=sl }:=fun {b o} hm e=>by
  obtain ⟨_,o',ho',hn⟩:=hf.2.2.1.mem hm
  rw [e] at ho';cases ho'
  exact up b o e hn
 refine ⟨F.os.trans I.os,F.bare,⟨?_,?_,?_,?_,?_,?_,?_⟩,?_,F.ne,?_,⟨B,a0,hf',?_⟩⟩
 ·intro b o e n hb hx
  have e1:=I.base.keep b o e n hb (by rw [O.ex];simp)
  have n1:=I.base.free b o e n (by rw [O.ex];simp)
  have hs:b∉frs X.stack:=nin (I.ne0 e) hb
  exact keepB (F.un.keep b o e1 n1 hs (by simp)) (.inl ⟨o,e1⟩) hs
 ·intro b o e n hb hx
  obtain ⟨sl,e1⟩:=I.base.slot b o e n hb (by rw [O.ex];simp)
  have n1:=I.base.free b o e n (by rw [O.ex];simp)
  have hs:b∈frs X.stack:=by rw [fst];exact List.mem_cons_of_mem _ hb
  obtain ⟨sl2,e2⟩:=F.un.slot b _ e1 n1 hs (by simp)
  obtain ⟨sl3,e3⟩:=slotOf hs e2
  exact ⟨sl3,e3⟩
 ·intro b o e n hx
  obtain ⟨o1,e1⟩:=I.there0 O e
  exact F.un.free b o1 e1 (I.base.free b o e n (by rw [O.ex];simp)) (by simp)
 ·intro b o e hx
  obtain ⟨o1,e1⟩:=I.there0 O e
  obtain ⟨o2,e2⟩:=F.un.there b o1 e1 (by simp)
  by_cases hs:b∈frs X.stack
  ·obtain ⟨sl,e3⟩:=slotOf hs e2
   exact ⟨_,e3⟩
  ·exact ⟨o2,keepB e2 (.inl ⟨o1,e1⟩) hs⟩
 ·exact fun b xs e=>F.un.tups b xs (I.base.tups b xs e)
 ·exact fun b o u e=>F.un.frzs b o u (I.base.frzs b o u e)
 ·intro b ps e
  obtain ⟨m1,e1⟩:=I.base.tbls b ps e
  obtain ⟨m2,e2⟩:=F.un.tbls b _ e1
  exact ⟨m1++m2,by rw [e2,Array.append_assoc]⟩
 ·intro a o e
  refine (F.hok a o e).stay (fun b u hb z=>?_) (fun b z=>z) (fun b xs z=>z)
  have hb':H' b≠none:=by
   rcases hb with rfl | hb
   ·rw [e];simp
   ·rw [hb];simp
  exact keepB z (.inr hb') (trk hb')
 ·show X.s₀.heap.get? ea=none
  cases q:X.s₀.heap.get? ea with
  | none=>rfl
  | some o=>
   obtain ⟨o1,e1⟩:=I.there0 O q
   rw [F.new] at e1;cases e1
 ·intro b o e c hb
  have c':(∃ o',s.heap.get? b=some o')∨H' b≠none:=by
   rcases c with ⟨o',c⟩ | c
   ·exact .inl (I.there0 O c)
   ·exact .inr c
  have hs:b∉frs X.stack:=by
   rcases c with ⟨o',c⟩ | c
   ·exact nin (I.ne0 c) hb
   ·exact trk c
  have ex:∃ o2,s'.heap.get? b=some o2:=by
   rcases c' with ⟨o',c1⟩ | c1
   ·exact F.un.there b o' c1 (by simp)
   ·cases q:H' b with
    | none=>exact absurd q c1
    | some u=>exact (F.hok b u q).here
  obtain ⟨o2,e2⟩:=ex
  have z:=keepB e2 c' hs
  have z':h'.get? b=some o:=e
  rw [z] at z';cases z'
  exact cov b o e2 c' hs
end
end L2
namespace L2
open PySem PySem.Spec PyProof.Rows
section
variable {X:Cx} {pins:List (Addr×Obj)} {σ:St} {H H':Hp} {s s':Shared} {ea:Addr} {cls:Value}
theorem zLv (l:List Env):∀ env∈l,∀ b,env.frame=some b->b∈frs l:=fun env he b hb=>List.mem_filterMap.mpr ⟨env,he,hb⟩
theorem Fly.made (I:Inv X pins σ H s) (O:Own X) {vs:List Value} (hx:Heap.MadeExcOf s.heap s'.heap ea cls vs) (hos:s'.os=s.os) (hg:AllBare s'.gens) {h':Heap} {t:Addr}
  (hf':Heap.FlyingW (PySem.W.hideAll s.heap (frs X.stack)) X.outer ea cls (.ref t) h') (up:s'.heap.UpToSlots h'):Fly X.prog X.w X.outer X.H₀ H X.s₀ ea cls { s' with heap:=h' }:=by
 have fst:frs X.stack=X.env.locals::X.fs:=zBK O
 have nin:∀ {b:Addr},b≠X.env.locals->b∉X.fs->b∉frs X.stack:=fun h1 h2=>by rw [fst];simp [h1,h2]
 have trk:∀ {b:Addr},H b≠none->b∉frs X.stack:=fun {b} hb hm=>hb (I.stkFree b hm)
 have keepB:∀ {b:Addr} {o:Obj},s.heap.get? b=some o->b∉frs X.stack->h'.get? b=some o:=fun e1 e3=>hf'.1 _ _ (PySem.W.hideAll_get _ e1 e3)
 have slotOf:∀ {b:Addr} {o:Obj},b∈frs X.stack->s.heap.get? b=some o->∃ sl,h'.get? b=some { o with slots:=sl }:=fun {b o} hm e=>by
  obtain ⟨_,o',ho',hn⟩:=I.stack.mem hm
  rw [e] at ho';cases ho'
  exact up b o (hx.keeps b o e) hn
 refine ⟨hos.trans I.os,hg,⟨?_,?_,?_,?_,?_,?_,?_⟩,?_,?_,?_,⟨_,_,hf',?_⟩⟩
 ·intro b o e n hb hx'
  exact keepB (I.base.keep b o e n hb (by rw [O.ex];simp)) (nin (I.ne0 e) hb)
 ·intro b o e n hb hx'
  obtain ⟨sl,e1⟩:=I.base.slot b o e n hb (by rw [O.ex];simp)
  have hs:b∈frs X.stack:=by rw [fst];exact List.mem_cons_of_mem _ hb
  obtain ⟨sl3,e3⟩:=slotOf hs e1
  exact ⟨sl3,e3⟩
 ·exact fun b o e n hx'=>I.base.free b o e n (by rw [O.ex];simp)
 ·intro b o e hx'
  obtain ⟨o1,e1⟩:=I.there0 O e
  by_cases hs:b∈frs X.stack
  ·obtain ⟨sl,e3⟩:=slotOf hs e1
   exact ⟨_,e3⟩
  ·exact ⟨o1,keepB e1 hs⟩
 ·exact fun b xs e=>I.base.tups b xs e
 ·exact fun b o u e=>I.base.frzs b o u e
 ·exact fun b ps e=>I.base.tbls b ps e
 ·intro a o e
  refine (I.hok a o e).stay (fun b u hb z=>?_) (fun b z=>z) (fun b xs z=>z)
  have hb':H b≠none:=by
   rcases hb with rfl | hb
   ·rw [e];simp
   ·rw [hb];simp
  exact keepB z (trk hb')
 ·exact I.hok.none_of hx.new
 ·show X.s₀.heap.get? ea=none
  cases q:X.s₀.heap.get? ea with
  | none=>rfl
  | some o=>
   obtain ⟨o1,e1⟩:=I.there0 O q
   rw [hx.new] at e1;cases e1
 ·intro b o e c hb
  have hs:b∉frs X.stack:=by
   rcases c with ⟨o',c⟩ | c
   ·exact nin (I.ne0 c) hb
   ·exact trk c
  have ex:∃ o2,s.heap.get? b=some o2:=by
   rcases c with ⟨o',c1⟩ | c1
   ·exact I.there0 O c1
   ·cases q:H b with
    | none=>exact absurd q c1
    | some u=>exact (I.hok b u q).here
  obtain ⟨o2,e2⟩:=ex
  have z:=keepB e2 hs
  have z':h'.get? b=some o:=e
  rw [z] at z';cases z'
  exact PySem.W.hideAll_get _ e2 hs
end
section
variable {CX:CXT} {P:Program} {w:World} {K:PySem.W.Frag} {mg:Str->Option Value} {base:Heap} {N:List Str} {qual:Str} {scope:Scope} {f:Addr} {cd:Value} {A:Around} {outer:List Env} {s₀:Shared} {H₀:Hp} {E:XK}
theorem zGx:Own (zCJ CX P w K mg base N qual scope f cd A outer s₀ H₀ E):=⟨rfl,rfl,rfl⟩
theorem zMf {E':XK} (h:∀ c H',E' c none H'->E c none H'):zBL (CX1 P w) (zCJ (CX1 P w) P w K mg base N qual scope f cd A outer s₀ H₀ E) E':=by
 intro pins σ H s e s' I hc
 obtain ⟨ea,cls,H',rfl,F,q⟩:=hc
 obtain ⟨B,a0,hf,cov⟩:=F.fly
 have O:Own (zCJ (CX1 P w) P w K mg base N qual scope f cd A outer s₀ H₀ E):=zGx
 exact wpAny_leaves_onW (I.ok.frames.trans (congrArg some O.stk)) O.fr hf fun h' hf' up=>⟨ea,cls,H',rfl,F.leave I O hf cov hf' up,h _ _ q⟩
theorem zAr {pins:List (Addr×Obj)} {σ:St} {H:Hp} {s s':Shared} {ea:Addr} {cls:Value} {vs:List Value} (I:Inv (zCJ (CX1 P w) P w K mg base N qual scope f cd A outer s₀ H₀ E) pins σ H s)
  (hx:Heap.MadeExcOf s.heap s'.heap ea cls vs) (hos:s'.os=s.os) (hg:AllBare s'.gens) (q:E cls none H):(zCJ (CX1 P w) P w K mg base N qual scope f cd A outer s₀ H₀ E).xe (.ref ea) s':=by
 have O:Own (zCJ (CX1 P w) P w K mg base N qual scope f cd A outer s₀ H₀ E):=zGx
 have hst:=O.stk
 exact wpAny_leaves_madeW (base:=PySem.W.hideAll s.heap (frs (zCJ (CX1 P w) P w K mg base N qual scope f cd A outer s₀ H₀ E).stack)) (h:=s.heap) (I.ok.frames.trans (congrArg some O.stk)) O.fr (fun b o z=>PySem.W.of_hideAll _ z)
  (PySem.W.funFrames_hide (I.stack) (zLv _)) hx fun h' t hf' _ _ up=>⟨ea,cls,H,rfl,Fly.made I O hx hos hg hf' up,q⟩
end
structure Err (K:PySem.W.Frag) (mg:Str->Option Value) (x:Str) (C:Addr):Prop where
 own:∀ h:Heap,K.In h->∃ bm newId B initId,OwnCls x C bm newId mg h/\ExcBaseFacts B newId initId bm
end L2
namespace L3
open PySem
inductive D where
 | non | bl (b:Bool) | int (i:Int) | str (x:Str) | tup (ds:List D) | lst (ds:List D)
inductive Res (α:Type) where
 | ok (a:α) | err (c:Str) | no
def Res.bind {α β:Type} (x:Res α) (f:α->Res β):Res β:=match x with
 | .ok a=>f a
 | .err c=>.err c
 | .no=>.no
inductive Sl where
 | un | val (d:D) | own (ds:List D) | exc (c:Str) | tab (T:List (Str×Str))
abbrev Rho:=List Sl
inductive Rt where
 | v (d:D) | f (ds:List D)
def Rt.d:Rt->D
 | .v d=>d
 | .f ds=>.lst ds
inductive Fl where
 | nx (ρ:Rho) | ret (r:Rt) | brk (ρ:Rho) | ctn (ρ:Rho)
abbrev Ev:=Rho->Res D
abbrev Fv:=Rho->Res (List D)
abbrev Tv:=Rho->Res Bool
abbrev Sv:=Rho->Res Fl
abbrev Mir:=List D->Res Rt
mutual
def eqD:D->D->Bool
 | .non,.non=>true
 | .bl a,.bl b=>a==b
 | .bl a,.int b=>(if a then 1 else 0)==b
 | .int a,.bl b=>a==(if b then 1 else 0)
 | .int a,.int b=>a==b
 | .str a,.str b=>a==b
 | .tup ds,.tup es=>zCF ds es
 | .lst ds,.lst es=>zCF ds es
 | _,_=>false
def zCF:List D->List D->Bool
 | [],[]=>true
 | d::ds,e::es=>eqD d e && zCF ds es
 | _,_=>false
end
mutual
def dep:D->Nat
 | .tup ds=>depS ds+1
 | .lst ds=>depS ds+1
 | _=>0
def depS:List D->Nat
 | []=>0
 | d::ds=>max (dep d) (depS ds)
end
mutual
def noL:D->Bool
 | .tup ds=>noLs ds
 | .lst _=>false
 | _=>true
def noLs:List D->Bool
 | []=>true
 | d::ds=>noL d && noLs ds
end
theorem rF:∀ {ds:List D} {d:D},d∈ds->dep d<=depS ds
 | e::ds,d,h=>by
  rw [depS]
  rcases List.mem_cons.mp h with rfl | h
  ·exact Nat.le_max_left ..
  ·exact Nat.le_trans (rF h) (Nat.le_max_right ..)
theorem zAI {n:Nat}:∀ {ds:List D},(∀ d∈ds,dep d<=n)->depS ds<=n
 | [],_=>Nat.zero_le _
 | d::ds,h=>by
  rw [depS]
  exact Nat.max_le.mpr ⟨h d List.mem_cons_self,zAI fun e he=>h e (List.mem_cons_of_mem _ he)⟩
theorem zGb:∀ {ds:List D},noLs ds=true ↔ ∀ d∈ds,noL d=true
 | []=>by simp [noLs]
 | d::ds=>by rw [noLs,Bool.and_eq_true,zGb];simp
theorem kO:∀ (ds es:List D),zCF ds es=((List.range (min ds.length es.length)).all (fun j=>eqD (ds.getD j .non) (es.getD j .non)) && ds.length==es.length)
 | [],[]=>rfl
 | [],e::es=>by simp [zCF]
 | d::ds,[]=>by simp [zCF]
 | d::ds,e::es=>by
  rw [zCF,kO ds es]
  have h:min (d::ds).length (e::es).length=min ds.length es.length+1:=by simp only [List.length_cons];omega
  rw [h,List.range_succ_eq_map]
  simp [List.all_map,Function.comp_def,Bool.and_assoc]
mutual
theorem mE:∀ d:D,eqD d d=true
 | .non=>rfl
 | .bl b=>by simp [eqD]
 | .int i=>by simp [eqD]
 | .str x=>by simp [eqD]
 | .tup ds=>by rw [eqD];exact qX ds
 | .lst ds=>by rw [eqD];exact qX ds
theorem qX:∀ ds:List D,zCF ds ds=true
 | []=>rfl
 | d::ds=>by rw [zCF,mE d,qX ds];rfl
end
def nb (i:Int):Nat:=i.natAbs.log2+1
theorem zHB (i:Int):i.natAbs < 2^nb i:=Nat.lt_log2_self
theorem zMx {i:Int} {m:Nat} (h:i.natAbs < 2^m) (hm:0 < m):nb i<=m:=by
 unfold nb
 by_cases h0:i.natAbs=0
 ·rw [h0];exact hm
 ·exact (Nat.log2_lt h0).mpr h
def hJ (i j:Int):Bool:=(decide (-(2^64) < i) && decide (i < 2^64)) || (decide (-(2^64) < j) && decide (j < 2^64)) || decide (nb i+nb j<=134217728)
def jP (j:Int):Bool:=decide (j≠0) && decide (nb j<=9000)
def rR (i j:Int):Bool:=decide (0<=j) && decide ((nb i:Int) * j<=2^27)
abbrev Op2:=D->D->Res D
def zDu:Op2
 | .int i,.int j=>.ok (.int (i+j))
 | .tup a,.tup b=>if a.length+b.length<=16777216 then .ok (.tup (a++b)) else .no
 | _,_=>.no
def zBk:Op2
 | .int i,.int j=>.ok (.int (i+j))
 | _,_=>.no
def wZ:Op2
 | .int i,.int j=>.ok (.int (i - j))
 | _,_=>.no
def pD:Op2
 | .int i,.int j=>if hJ i j=true then .ok (.int (i * j)) else .no
 | _,_=>.no
def zDz:Op2
 | .int i,.int j=>if jP j=true then .ok (.int (i.fdiv j)) else .no
 | _,_=>.no
def zCC:Op2
 | .int i,.int j=>if j≠0 then .ok (.int (i.fmod j)) else .no
 | _,_=>.no
def zJn:Op2
 | .int i,.int j=>if rR i j=true then .ok (.int (i^j.toNat)) else .no
 | _,_=>.no
def oEq (x y:D):Res D:=if dep x<=50 then .ok (.bl (eqD x y)) else .no
def oNe (x y:D):Res D:=if dep x<=50 then .ok (.bl (!eqD x y)) else .no
def oLt:Op2
 | .int i,.int j=>.ok (.bl (decide (i < j)))
 | _,_=>.no
def oLe:Op2
 | .int i,.int j=>.ok (.bl (decide (i<=j)))
 | _,_=>.no
def oGt:Op2
 | .int i,.int j=>.ok (.bl (decide (j < i)))
 | _,_=>.no
def oGe:Op2
 | .int i,.int j=>.ok (.bl (decide (j<=i)))
 | _,_=>.no
def atD (ds:List D) (i:Int):Option D:=if 0<=i then ds[i.toNat]? else if 0<=(ds.length:Int)+i then ds[((ds.length:Int)+i).toNat]? else none
def ofO {α:Type}:Option α->Res α
 | some a=>.ok a
 | none=>.no
def oIx:Op2
 | .tup ds,.int i=>ofO (atD ds i)
 | .lst ds,.int i=>ofO (atD ds i)
 | _,_=>.no
def oIn:Op2
 | d,.lst ds=>if depS ds<=50 then .ok (.bl (ds.any fun e=>eqD e d)) else .no
 | d,.tup ds=>if depS ds<=50 then .ok (.bl (ds.any fun e=>eqD e d)) else .no
 | _,_=>.no
def zGO:D->Res D
 | .int i=>.ok (.int (-i))
 | _=>.no
def zNy:D->Res D
 | .bl b=>.ok (.bl (!b))
 | _=>.no
def aK (i:Nat) (ρ:Rho):Res D:=match ρ[i]? with
 | some (.val d)=>.ok d
 | _=>.no
def eC (d:D) (_ρ:Rho):Res D:=.ok d
def eOp (o:Op2) (a b:Ev) (ρ:Rho):Res D:=(a ρ).bind fun x=>(b ρ).bind fun y=>o x y
def eUn (o:D->Res D) (a:Ev) (ρ:Rho):Res D:=(a ρ).bind o
def zKQ (a b:Ev) (ρ:Rho):Res D:=(a ρ).bind fun x=>match x with
 | .bl c=>if c=true then b ρ else .ok (.bl false)
 | _=>.no
def eOr (a b:Ev) (ρ:Rho):Res D:=(a ρ).bind fun x=>match x with
 | .bl c=>if c=true then .ok (.bl true) else b ρ
 | _=>.no
def eIf (t:Tv) (a b:Ev) (ρ:Rho):Res D:=(t ρ).bind fun c=>if c=true then a ρ else b ρ
def aNil (_ρ:Rho):Res (List D):=.ok []
def aE (e:Ev) (r:Fv) (ρ:Rho):Res (List D):=(e ρ).bind fun d=>(r ρ).bind fun ds=>.ok (d::ds)
def lF (a:Fv) (ρ:Rho):Res D:=(a ρ).bind fun ds=>if ds.length<=16777216 then .ok (.tup ds) else .no
def bB (m:Mir) (a:Fv) (ρ:Rho):Res D:=(a ρ).bind fun ds=>(m ds).bind fun r=>.ok r.d
def kZ:List D->Res D
 | [.lst ds]=>.ok (.int ds.length)
 | [.tup ds]=>.ok (.int ds.length)
 | _=>.no
def zGw:List D->Res D
 | [.int i]=>.ok (.int (if i < 0 then -i else i))
 | _=>.no
def zNG:List D->Res D
 | [.int i,.int j]=>.ok (.int (if j > i then j else i))
 | _=>.no
def zNA:List D->Res D
 | [.int i,.int j]=>.ok (.int (if j < i then j else i))
 | _=>.no
def zHb:List D->Res D
 | [.lst ds]=>.ok (.tup ds)
 | [.tup ds]=>.ok (.tup ds)
 | _=>.no
def eB (b:List D->Res D) (a:Fv) (ρ:Rho):Res D:=(a ρ).bind b
def tyN:D->String
 | .non => "NoneType" | .bl _ => "bool" | .int _ => "int" | .str _ => "str" | .tup _ => "tuple" | .lst _ => "list"
def isT (T:String) (d:D):Bool:=tyN d==T || (T == "int" && tyN d == "bool")
def zGM (T:String) (a:Ev) (ρ:Rho):Res D:=(a ρ).bind fun d=>.ok (.bl (isT T d))
def isNon:D->Bool
 | .non=>true
 | _=>false
def Sl.frz:Sl->Sl
 | .own ds=>.val (.lst ds)
 | s=>s
def zLB (e:Ev) (ρ:Rho):Res D:=(e (ρ.map Sl.frz)).bind fun d=>if noL d=true then .ok d else .no
def pC (a:Fv) (ρ:Rho):Res (List D):=(a ρ).bind fun ds=>if ds.length<=16777216 then .ok ds else .no
def eI (m:Mir) (a:Fv) (ρ:Rho):Res (List D):=(a ρ).bind fun ds=>(m ds).bind fun r=>match r with
 | .f ds=>.ok ds
 | .v _=>.no
def zGp (a:Fv) (ρ:Rho):Res (List D):=(a ρ).bind fun ds=>match ds with
 | [.lst ds]=>.ok ds
 | [.tup ds]=>.ok ds
 | _=>.no
def zMr (a b:Ev) (ρ:Rho):Res (List D):=(a ρ).bind fun x=>(b ρ).bind fun y=>match x,y with
 | .lst ds,.lst es=>if ds.length+es.length<=16777216 then .ok (ds++es) else .no
 | _,_=>.no
def eF (f:Fv) (ρ:Rho):Res D:=(f ρ).bind fun ds=>.ok (.lst ds)
def cut (n:Nat) (i:Option Int) (d:Nat):Nat:=match i with
 | none=>d
 | some i=>if 0<=i then min i.toNat n else ((n:Int)+i).toNat
def jJ (ds:List D) (lo hi:Option Int):List D:=(ds.drop (cut ds.length lo 0)).take (cut ds.length hi ds.length - cut ds.length lo 0)
abbrev Ov:=Rho->Res (Option Int)
def oN (_ρ:Rho):Res (Option Int):=.ok none
def oS (e:Ev) (ρ:Rho):Res (Option Int):=(e ρ).bind fun d=>match d with
 | .int i=>.ok (some i)
 | _=>.no
def fSl (a:Ev) (lo hi:Ov) (ρ:Rho):Res (List D):=(a ρ).bind fun x=>(lo ρ).bind fun l=>(hi ρ).bind fun h=>match x with
 | .lst ds=>.ok (jJ ds l h)
 | _=>.no
def zNI (a:Ev) (lo hi:Ov) (ρ:Rho):Res D:=(a ρ).bind fun x=>(lo ρ).bind fun l=>(hi ρ).bind fun h=>match x with
 | .tup ds=>if (jJ ds l h).length < ds.length then .ok (.tup (jJ ds l h)) else .no
 | _=>.no
def dR (e:Ev) (ρ:Rho):Res Bool:=(e ρ).bind fun d=>match d with
 | .bl b=>.ok b
 | _=>.no
def tFrzB (t:Tv) (ρ:Rho):Res Bool:=t (ρ.map Sl.frz)
def lI (t:Tv) (ρ:Rho):Res Bool:=(t ρ).bind fun b=>.ok (!b)
def zDY (t u:Tv) (ρ:Rho):Res Bool:=(t ρ).bind fun b=>if b=true then u ρ else .ok false
def zAU (t u:Tv) (ρ:Rho):Res Bool:=(t ρ).bind fun b=>if b=true then .ok true else u ρ
def sNext (ρ:Rho):Res Fl:=.ok (.nx ρ)
def bF (a b:Sv) (ρ:Rho):Res Fl:=(a ρ).bind fun f=>match f with
 | .nx ρ'=>b ρ'
 | f=>.ok f
def sIf (t:Tv) (a b:Sv) (ρ:Rho):Res Fl:=(t ρ).bind fun c=>if c=true then a ρ else b ρ
def dU (i:Nat) (e:Ev) (ρ:Rho):Res Fl:=(e ρ).bind fun d=>.ok (.nx (ρ.set i (.val d)))
def zCv (i:Nat) (f:Fv) (ρ:Rho):Res Fl:=(f ρ).bind fun ds=>.ok (.nx (ρ.set i (.own ds)))
def zR (e:Ev) (ρ:Rho):Res Fl:=(e ρ).bind fun _=>.ok (.nx ρ)
def jL (e:Ev) (ρ:Rho):Res Fl:=(e (ρ.map Sl.frz)).bind fun d=>.ok (.ret (.v d))
def jO (f:Fv) (ρ:Rho):Res Fl:=(f (ρ.map Sl.frz)).bind fun ds=>.ok (.ret (.f ds))
def gF (i:Nat) (ρ:Rho):Res Fl:=match ρ[i]? with
 | some (.own ds)=>.ok (.ret (.f ds))
 | _=>.no
def sRetN (_ρ:Rho):Res Fl:=.ok (.ret (.v .non))
def jI (c:Str) (a:Fv) (ρ:Rho):Res Fl:=(a ρ).bind fun ds=>if ds.length<=16777216 then .err c else .no
def sNo (_ρ:Rho):Res Fl:=.no
def zBA (i:Nat) (e:Ev) (ρ:Rho):Res Fl:=match ρ[i]? with
 | some (.own ds)=>(e ρ).bind fun d=>if ds.length < 16777216 then .ok (.nx (ρ.set i (.own (ds++[d])))) else .no
 | _=>.no
def zLD (i:Nat) (k e:Ev) (ρ:Rho):Res Fl:=(e ρ).bind fun d=>match ρ[i]? with
 | some (.own ds)=>(k ρ).bind fun j=>match j with
  | .int j=>if 0<=j/\j < ds.length then .ok (.nx (ρ.set i (.own (ds.set j.toNat d)))) else if -(ds.length:Int)<=j/\j < 0 then .ok (.nx (ρ.set i (.own (ds.set (j+ds.length).toNat d)))) else .no
  | _=>.no
 | _=>.no
def zJJ (i:Nat) (ρ:Rho):Res Fl:=match ρ[i]? with
 | some (.own ds)=>if ds.length=0 then .no else .ok (.nx (ρ.set i (.own ds.dropLast)))
 | _=>.no
def zGK (i:Nat) (o:Op2) (e:Ev) (ρ:Rho):Res Fl:=match ρ[i]? with
 | some (.val x)=>(e ρ).bind fun y=>(o x y).bind fun d=>.ok (.nx (ρ.set i (.val d)))
 | _=>.no
def sFrz (s:Sv) (ρ:Rho):Res Fl:=s (ρ.map Sl.frz)
def noErr {α:Type}:Res α->Res α
 | .err _=>.no
 | r=>r
abbrev Gv:=D->Rho->Res Rho
def gName (i:Nat) (d:D) (ρ:Rho):Res Rho:=.ok (ρ.set i (.val d))
def zGW (gs:List D->Rho->Res Rho) (d:D) (ρ:Rho):Res Rho:=match d with
 | .tup ds=>gs ds ρ
 | _=>.no
def zGA (ds:List D) (ρ:Rho):Res Rho:=match ds with
 | []=>.ok ρ
 | _=>.no
def sT (g:Gv) (r:List D->Rho->Res Rho) (ds:List D) (ρ:Rho):Res Rho:=match ds with
 | d::ds=>(g d ρ).bind fun ρ'=>r ds ρ'
 | []=>.no
def zNs (g:Gv) (f:Ev) (ρ:Rho):Res Fl:=(f ρ).bind fun d=>(g d ρ).bind fun ρ'=>.ok (.nx ρ')
def fP (g:Gv) (b:Sv):List D->Rho->Res Fl
 | [],ρ=>.ok (.nx ρ)
 | d::ds,ρ=>(g d ρ).bind fun ρ1=>(b ρ1).bind fun f=>match f with
  | .nx ρ2=>fP g b ds ρ2
  | .ctn ρ2=>fP g b ds ρ2
  | .brk ρ2=>.ok (.nx ρ2)
  | .ret r=>.ok (.ret r)
def xA (it:Fv) (g:Gv) (b:Sv) (ρ:Rho):Res Fl:=(it ρ).bind fun ds=>fP g b ds ρ
def rX (e:Ev) (ρ:Rho):Res (List D):=(e ρ).bind fun d=>match d with
 | .lst ds=>.ok ds
 | .tup ds=>.ok ds
 | _=>.no
def rng (lo:Int) (n:Nat) (c:Int):List D:=(List.range n).map fun (i:Nat)=>D.int (lo+(i:Int) * c)
def zDV (a:Fv) (ρ:Rho):Res (List D):=(a ρ).bind fun ds=>match ds with
 | [.int j]=>if -(2^62)<=j/\j < 2^62 then .ok (rng 0 j.toNat 1) else .no
 | _=>.no
def zAK (a:Fv) (ρ:Rho):Res (List D):=(a ρ).bind fun ds=>match ds with
 | [.int i,.int j]=>if -(2^62)<=i/\i < 2^62/\-(2^62)<=j/\j < 2^62 then .ok (rng i (j - i).toNat 1) else .no
 | _=>.no
def wh (t:Tv) (b:Sv):Nat->Rho->Res Fl
 | 0,_=>.no
 | n+1,ρ=>(t ρ).bind fun c=>if c=true then (b ρ).bind fun f=>match f with
   | .nx ρ2=>wh t b n ρ2
   | .ctn ρ2=>wh t b n ρ2
   | .brk ρ2=>.ok (.nx ρ2)
   | .ret r=>.ok (.ret r)
  else .ok (.nx ρ)
open Classical in
def eN (t:Tv) (b:Sv) (ρ:Rho):Res Fl:=if h:∃ n,wh t b n ρ≠.no then wh t b h.choose ρ else .no
theorem vP {t:Tv} {b:Sv}:∀ {n:Nat} {ρ:Rho} {k:Nat},wh t b n ρ≠.no->n<=k->wh t b k ρ=wh t b n ρ
 | 0,ρ,k,h,_=>absurd rfl h
 | n+1,ρ,0,h,l=>absurd l (by omega)
 | n+1,ρ,k+1,h,l=>by
  rw [wh,wh]
  rw [wh] at h
  cases ht:t ρ with
  | no=>rfl
  | err c=>rfl
  | ok c=>
   rw [ht] at h
   simp only [Res.bind] at h ⊢
   cases c with
   | false=>rfl
   | true=>
    simp only [if_true] at h ⊢
    cases hb:b ρ with
    | no=>rfl
    | err c=>rfl
    | ok f=>
     rw [hb] at h
     cases f with
     | nx ρ2=>exact vP h (by omega)
     | ctn ρ2=>exact vP h (by omega)
     | brk ρ2=>rfl
     | ret r=>rfl
theorem fJ {t:Tv} {b:Sv} {n:Nat} {ρ:Rho} (h:wh t b n ρ≠.no):eN t b ρ=wh t b n ρ:=by
 have hx:∃ n,wh t b n ρ≠.no:=⟨n,h⟩
 unfold eN
 rw [dif_pos hx]
 rcases Nat.le_total n hx.choose with l | l
 ·exact vP h l
 ·exact (vP hx.choose_spec l).symm
theorem lM {t:Tv} {b:Sv} {ρ:Rho} (h:eN t b ρ≠.no):∃ n,eN t b ρ=wh t b n ρ:=by
 unfold eN at h ⊢
 split
 ·exact ⟨_,rfl⟩
 ·rename_i hx;rw [dif_neg hx] at h;exact absurd rfl h
theorem xE {t:Tv} {b:Sv} {ρ:Rho}:eN t b ρ=((t ρ).bind fun c=>if c=true then (b ρ).bind fun f=>match f with
   | .nx ρ2=>eN t b ρ2
   | .ctn ρ2=>eN t b ρ2
   | .brk ρ2=>.ok (.nx ρ2)
   | .ret r=>.ok (.ret r)
  else .ok (.nx ρ)):=by
 have key:∀ n,wh t b (n+1) ρ≠.no->wh t b (n+1) ρ=((t ρ).bind fun c=>if c=true then (b ρ).bind fun f=>match f with
   | .nx ρ2=>eN t b ρ2
   | .ctn ρ2=>eN t b ρ2
   | .brk ρ2=>.ok (.nx ρ2)
   | .ret r=>.ok (.ret r)
  else .ok (.nx ρ)):=by
  intro n h
  rw [wh] at h ⊢
  cases ht:t ρ with
  | no=>rfl
  | err c=>rfl
  | ok c=>
   rw [ht] at h
   simp only [Res.bind] at h ⊢
   cases c with
   | false=>rfl
   | true=>
    simp only [if_true] at h ⊢
    cases hb:b ρ with
    | no=>rfl
    | err c=>rfl
    | ok f=>
     rw [hb] at h
     cases f with
     | nx ρ2=>exact (fJ h).symm
     | ctn ρ2=>exact (fJ h).symm
     | brk ρ2=>rfl
     | ret r=>rfl
 by_cases h:eN t b ρ=.no
 ·rw [h]
  cases ht:t ρ with
  | no=>rfl
  | err c=>
   exfalso
   have q:wh t b 1 ρ=.err c:=by rw [wh,ht];rfl
   have:=fJ (t:=t) (b:=b) (ρ:=ρ) (n:=1) (by rw [q];exact fun z=>by cases z)
   rw [h,q] at this;cases this
  | ok c=>
   simp only [Res.bind]
   cases c with
   | false=>
    exfalso
    have q:wh t b 1 ρ=.ok (.nx ρ):=by rw [wh,ht];rfl
    have:=fJ (t:=t) (b:=b) (ρ:=ρ) (n:=1) (by rw [q];exact fun z=>by cases z)
    rw [h,q] at this;cases this
   | true=>
    simp only [if_true]
    cases hb:b ρ with
    | no=>rfl
    | err c=>
     exfalso
     have q:wh t b 1 ρ=.err c:=by rw [wh,ht];simp [Res.bind,hb]
     have:=fJ (t:=t) (b:=b) (ρ:=ρ) (n:=1) (by rw [q];exact fun z=>by cases z)
     rw [h,q] at this;cases this
    | ok f=>
     have again:∀ ρ2,(f=.nx ρ2∨f=.ctn ρ2)->eN t b ρ2=.no:=by
      intro ρ2 hf
      by_cases h2:eN t b ρ2=.no
      ·exact h2
      ·exfalso
       obtain ⟨n,e⟩:=lM h2
       have q:wh t b (n+1) ρ=wh t b n ρ2:=by
        rw [wh,ht]
        simp only [Res.bind,if_true,hb]
        rcases hf with rfl | rfl<;>rfl
       have h3:wh t b (n+1) ρ≠.no:=by rw [q,<-e];exact h2
       have:=fJ h3
       rw [h] at this
       exact h3 this.symm
     cases f with
     | nx ρ2=>exact (again ρ2 (.inl rfl)).symm
     | ctn ρ2=>exact (again ρ2 (.inr rfl)).symm
     | brk ρ2=>
      exfalso
      have q:wh t b 1 ρ=.ok (.nx ρ2):=by rw [wh,ht];simp [Res.bind,hb]
      have:=fJ (t:=t) (b:=b) (ρ:=ρ) (n:=1) (by rw [q];exact fun z=>by cases z)
      rw [h,q] at this;cases this
     | ret r=>
      exfalso
      have q:wh t b 1 ρ=.ok (.ret r):=by rw [wh,ht];simp [Res.bind,hb]
      have:=fJ (t:=t) (b:=b) (ρ:=ρ) (n:=1) (by rw [q];exact fun z=>by cases z)
      rw [h,q] at this;cases this
 ·obtain ⟨n,e⟩:=lM h
  cases n with
  | zero=>rw [e] at h;exact absurd rfl h
  | succ n=>rw [e];exact key n (by rw [<-e];exact h)
def zHS (f:Fv) (g:Ev) (ρ:Rho):Res (List D):=(f ρ).bind fun ds=>(g ρ).bind fun d=>match d with
 | .int k=>if 0<=k/\k < 2^62/\ds.length * k.toNat<=16777216 then .ok (List.replicate k.toNat ds).flatten else .no
 | _=>.no
def rM (_ρ:Rho):Res Bool:=.ok true
def gG (t:Tv) (f:Ev) (ρ:Rho):List D->Res (List D)
 | []=>.ok []
 | d::ds=>(noErr (t (ρ++[.val d]))).bind fun c=>if c=true then (noErr (f (ρ++[.val d]))).bind fun e=>(gG t f ρ ds).bind fun es=>.ok (e::es) else gG t f ρ ds
def oA (it:Fv) (t:Tv) (f:Ev) (ρ:Rho):Res (List D):=(it ρ).bind fun ds=>if ds.length<=16777215 then gG t f ρ ds else .no
def start (n:Nat) (ds:List D):Rho:=ds.map Sl.val++List.replicate (n - ds.length) .un
def fin:Fl->Res Rt
 | .nx _=>.ok (.v .non)
 | .ret r=>.ok r
 | .brk _=>.no
 | .ctn _=>.no
def fn (p n:Nat) (b:Sv) (ds:List D):Res Rt:=if ds.length=p then (b (start n ds)).bind fin else .no
def zFq:D->Option (List D)
 | .lst ds=>some ds
 | .tup ds=>some ds
 | _=>none
def iD:List D->List D->List D
 | a::r,b::q=>.tup [a,b]::iD r q
 | _,_=>[]
def zIC (a:Fv) (ρ:Rho):Res (List D):=(a ρ).bind fun ds=>match ds with
 | [x,y]=>match zFq x,zFq y with
  | some xs,some ys=>.ok (iD xs ys)
  | _,_=>.no
 | _=>.no
def eX (f:Ev) (ρ:Rho):List D->Res (List D)
 | []=>.ok []
 | .tup [a,b]::ds=>(noErr (f (ρ++[.val a,.val b]))).bind fun e=>(eX f ρ ds).bind fun es=>.ok (e::es)
 | _::_=>.no
def oH (it:Fv) (f:Ev) (ρ:Rho):Res (List D):=(it ρ).bind fun ds=>if ds.length<=16777215 then eX f ρ ds else .no
def zNk:D->Option Str
 | .str x=>some x
 | .int i=>if i.natAbs.log2 < 1920 then some (toString i) else none
 | _=>none
def zNe:Str->List D->Option Str
 | a,[]=>some a
 | a,d::r=>match zNk d with
  | some x=>if x.length<=sizeLine/\(a++x).length<=sizeLine then zNe (a++x) r else none
  | none=>none
def oU:List D->Option (List Int)
 | []=>some []
 | .int i::ds=>match oU ds with
  | some ns=>some (i::ns)
  | none=>none
 | _::_=>none
def xI:List D->Res D
 | [.lst ds]=>(match oU ds with
  | some ns=>.ok (.int ns.sum)
  | none=>.no)
 | [.tup ds]=>(match oU ds with
  | some ns=>.ok (.int ns.sum)
  | none=>.no)
 | _=>.no
def chO:Option Nat->Res D
 | some c=>.ok (.str ⟨#[c]⟩)
 | none=>.no
def slS (l u:Option Int):D->Res D
 | .str x=>if x.length<=sizeLine then .ok (.str (Txt.slice x l u)) else .no
 | _=>.no
def nZ (T:List (Str×Str)):D->Res D
 | .str x=>.ok (.bl (!(T.lookup x).isSome))
 | _=>.no
def zJo:Option Str->Res D
 | some y=>.ok (.str y)
 | none=>.no
def rO (T:List (Str×Str)):D->Res D
 | .str x=>zJo (T.lookup x)
 | _=>.no
end L3
namespace L3
open PySem
end L3
namespace L3
open PySem
def fK (kz:List Int) (π:List Nat):Prop:=π.Perm (List.range kz.length)/\π.Pairwise (fun i j=>kz.getD i 0<=kz.getD j 0)
def zFp (b:Int):D->Res Int
 | .tup [.int t,.int d]=>if jP d && hJ t (b.fdiv d) then .ok (t * b.fdiv d) else .no
 | _=>.no
def lY (b:Int):List D->Res (List Int)
 | []=>.ok []
 | d::r=>(zFp b d).bind fun k=>(lY b r).bind fun ks=>.ok (k::ks)
def hU (π:List Nat):List D:=π.map fun i:Nat=>D.int (i:Int)
theorem zHZ {b k:Int} {d:D} (h:zFp b d=.ok k):∃ t c,d=.tup [.int t,.int c]/\jP c=true/\hJ t (b.fdiv c)=true/\k=t * b.fdiv c:=by
 unfold zFp at h
 split at h
 ·rename_i t c
  split at h
  ·rename_i hc
   rw [Bool.and_eq_true] at hc
   cases h
   exact ⟨t,c,rfl,hc.1,hc.2,rfl⟩
  ·cases h
 ·cases h
theorem wU {b:Int}:∀ {rows:List D} {kz:List Int},lY b rows=.ok kz->kz.length=rows.length/\∀ (j:Nat) (k:Int),kz[j]?=some k->∃ d,rows[j]?=some d/\zFp b d=.ok k
 | [],kz,h=>by cases h;exact ⟨rfl,fun j k z=>by simp at z⟩
 | d::r,kz,h=>by
  unfold lY at h
  cases e:zFp b d with
  | no=>rw [e] at h;cases h
  | err c=>rw [e] at h;cases h
  | ok k0=>
   rw [e] at h
   have h':(lY b r).bind (fun ks=>Res.ok (k0::ks))=.ok kz:=h
   cases e2:lY b r with
   | no=>rw [e2] at h';cases h'
   | err c=>rw [e2] at h';cases h'
   | ok ks=>
    rw [e2] at h'
    cases h'
    obtain ⟨h1,h2⟩:=wU e2
    refine ⟨by rw [List.length_cons,List.length_cons,h1],fun j k z=>?_⟩
    cases j with
    | zero=>simp at z;subst z;exact ⟨d,rfl,e⟩
    | succ j=>exact h2 j k (by simpa using z)
def zBI (ρ:Rho):Res (List Int):=match ρ[0]?,ρ[1]? with
 | some (Sl.val (.lst rows)),some (Sl.val (.int b))=>if rows.length < 64 then lY b rows else .no
 | _,_=>.no
def vY (sa sb:Sv) (ds:List D):Res (List Int):=if ds.length=1 then (match sa (L3.start 3 ds) with
 | .ok (.nx ρ)=>(match sb ρ with
  | .ok (.nx ρ')=>zBI ρ'
  | _=>.no)
 | _=>.no) else .no
theorem zBQ {b:Int}:∀ {rows:List D} {c:Str},lY b rows≠.err c
 | [],c,h=>by cases h
 | d::r,c,h=>by
  unfold lY at h
  have k0:∀ c,zFp b d≠.err c:=fun c z=>by
   unfold zFp at z
   split at z
   ·split at z<;>cases z
   ·cases z
  cases e:zFp b d with
  | no=>rw [e] at h;cases h
  | err c'=>exact k0 _ e
  | ok k=>
   rw [e] at h
   have h':(lY b r).bind (fun ks=>Res.ok (k::ks))=.err c:=h
   cases e2:lY b r with
   | no=>rw [e2] at h';cases h'
   | err c'=>exact zBQ e2
   | ok ks=>rw [e2] at h';cases h'
theorem zKJ {sa sb:Sv} (ds:List D) (c:Str):vY sa sb ds≠.err c:=fun h=>by
 unfold vY zBI at h
 split at h
 ·split at h
  ·split at h
   ·split at h
    ·split at h
     ·exact zBQ h
     ·cases h
    ·cases h
   ·cases h
  ·cases h
 ·cases h
theorem zHg {sa sb:Sv} (ds:List D) (h:vY sa sb ds≠.no):ds.length=1:=by
 unfold vY at h
 split at h
 ·assumption
 ·exact absurd rfl h
open Classical in
def lT (kz:List Int) (F:List Nat->Res Fl):Res Fl:=if h:∃ x,∀ π,fK kz π->F π=x then h.choose else .no
theorem zCQ {kz:List Int} {F:List Nat->Res Fl} {π:List Nat} (h:lT kz F≠.no) (hπ:fK kz π):F π=lT kz F:=by
 unfold lT at h ⊢
 split at h
 ·rename_i z;rw [dif_pos z];exact z.choose_spec π hπ
 ·exact absurd rfl h
theorem zCn {kz:List Int} {F:List Nat->Res Fl} {x:Res Fl} {π:List Nat} (hπ:fK kz π) (h:∀ π,fK kz π->F π=x):lT kz F=x:=by
 have z:∃ x,∀ π,fK kz π->F π=x:=⟨x,h⟩
 unfold lT
 rw [dif_pos z,<-z.choose_spec π hπ]
 exact h π hπ
def zDv (fs:Fv) (kf:List D->Res (List Int)) (g:Gv) (b r:Sv):Sv:=fun ρ=>((fs ρ).bind kf).bind fun kz=>lT kz fun π=>bF (fun ρ=>fP g b (hU π) ρ) r ρ
end L3
namespace L3
open PySem
end L3
namespace L3
open PySem
abbrev Tri:=D×List D×List D
end L3
namespace L3
open PySem
def zAQ (e:Ev):Fv:=fun ρ=>(e ρ).bind fun d=>match d with
 | .lst ds=>.ok ds.reverse
 | _=>.no
def zNc:D->Res (List D)
 | .lst ds=>.ok ds.reverse
 | _=>.no
theorem revL_l {ds:List D}:zNc (.lst ds)=.ok ds.reverse:=rfl
theorem iRevL_at {e:Ev} {ρ:Rho}:zAQ e ρ=(e ρ).bind zNc:=by
 unfold zAQ
 congr
def zFm (t:Tv) (j:Nat) (ρ:Rho):List D->Bool
 | []=>true
 | d::ds=>match t (ρ.set j (.val d)) with
  | .ok false=>zFm t j ρ ds
  | _=>false
def zFd (j:Nat) (it:Fv) (t:Tv) (ρ:Rho):Res Fl:=match it (ρ.map Sl.frz) with
 | .ok ds=>if zFm t j (ρ.map Sl.frz) ds=true then .ok (.nx (ρ.set j .un)) else .no
 | _=>.no
theorem zDx {t:Tv} {j:Nat} {ρ:Rho}:∀ {ds:List D},(∀ d∈ds,t (ρ.set j (.val d))=.ok false)->zFm t j ρ ds=true
 | [],_=>rfl
 | d::ds,h=>by
  unfold zFm
  rw [h d List.mem_cons_self]
  exact zDx fun e he=>h e (List.mem_cons_of_mem _ he)
theorem zDZ {t:Tv} {j:Nat} {ρ:Rho}:∀ {ds:List D} {d:D},zFm t j ρ ds=true->d∈ds->t (ρ.set j (.val d))=.ok false
 | e::ds,d,h,hd=>by
  unfold zFm at h
  split at h
  ·rename_i z
   rcases List.mem_cons.mp hd with rfl | hd
   ·exact z
   ·exact zDZ h hd
  ·cases h
theorem zFx {j:Nat} {it:Fv} {t:Tv} {ρ:Rho} {ds:List D} (h1:it (ρ.map Sl.frz)=.ok ds) (h2:∀ d∈ds,t ((ρ.map Sl.frz).set j (.val d))=.ok false):zFd j it t ρ=.ok (.nx (ρ.set j .un)):=by
 unfold zFd
 rw [h1]
 show (if zFm t j (ρ.map Sl.frz) ds=true then _ else _)=_
 rw [if_pos (zDx h2)]
end L3
namespace Fq
theorem zBR {a b:Int} (ha:0<=a) (hb:0 < b):Int.gcd b (a % b)=Int.gcd a b:=by
 obtain ⟨m,rfl⟩:=Int.eq_ofNat_of_zero_le ha
 obtain ⟨n,rfl⟩:=Int.eq_ofNat_of_zero_le (Int.le_of_lt hb)
 show Nat.gcd n (m % n)=Nat.gcd m n
 rw [Nat.gcd_comm n (m % n),Nat.gcd_comm m n,Nat.gcd_rec n m]
def dv (t b:Int):Int:=if b < 0 then -(Int.gcd t b:Int) else (Int.gcd t b:Int)
theorem zHP {t b:Int} (hb:b≠0):0 < (Int.gcd t b:Int):=by
 have h:Int.gcd t b≠0:=fun h=>hb (Int.gcd_eq_zero_iff.mp h).2
 omega
theorem zKz {t b:Int} (hb:b≠0):dv t b≠0:=by
 have:=zHP (t:=t) hb
 unfold dv;split<;>omega
theorem wL (t b:Int):dv t b ∣ t:=by
 unfold dv;split
 ·exact Int.neg_dvd.mpr (Int.gcd_dvd_left ..)
 ·exact Int.gcd_dvd_left ..
theorem zBX (t b:Int):dv t b ∣ b:=by
 unfold dv;split
 ·exact Int.neg_dvd.mpr (Int.gcd_dvd_right ..)
 ·exact Int.gcd_dvd_right ..
theorem lV {t d:Int} (h:d ∣ t):t.fdiv d=t / d:=by
 rw [Int.fdiv_eq_ediv]
 simp [h]
theorem uC {t b:Int} (hb:b≠0):t.fdiv (dv t b)=(Rat.divInt t b).num:=by
 rw [lV (wL t b),Rat.num_divInt,Int.gcd_comm b t]
 unfold dv
 rcases Int.lt_trichotomy b 0 with h | h | h
 ·rw [if_pos h,Int.sign_eq_neg_one_of_neg h,Int.ediv_neg]
  have:(-1:Int) * t=-t:=by omega
  rw [this,Int.neg_ediv_of_dvd (Int.gcd_dvd_left ..)]
 ·exact absurd h hb
 ·rw [if_neg (by omega),Int.sign_eq_one_of_pos h,Int.one_mul]
theorem tY {t b:Int} (hb:b≠0):b.fdiv (dv t b)=((Rat.divInt t b).den:Int):=by
 rw [lV (zBX t b),Rat.den_divInt,if_neg hb,Int.gcd_comm b t]
 unfold dv
 rcases Int.lt_trichotomy b 0 with h | h | h
 ·rw [if_pos h,Int.ediv_neg,Int.natCast_ediv]
  have e:((b.natAbs:Nat):Int)=-b:=by omega
  rw [e,Int.neg_ediv_of_dvd (Int.gcd_dvd_right ..)]
 ·exact absurd h hb
 ·rw [if_neg (by omega),Int.natCast_ediv]
  have e:((b.natAbs:Nat):Int)=b:=by omega
  rw [e]
theorem dA (q:Rat):(q.den:Int)≠0:=by have:=q.den_nz;omega
theorem iF (q:Rat):(0:Int) < (q.den:Int):=by have:=q.den_nz;omega
theorem zHm (p q:Rat):Rat.divInt (p.num * q.den+q.num * p.den) (p.den * q.den)=p+q:=by
 rw [<-Rat.divInt_add_divInt _ _ (dA p) (dA q),Rat.num_divInt_den,Rat.num_divInt_den]
theorem zEB (p q:Rat):Rat.divInt (p.num * q.den - q.num * p.den) (p.den * q.den)=p - q:=by
 rw [<-Rat.divInt_sub_divInt _ _ (dA p) (dA q),Rat.num_divInt_den,Rat.num_divInt_den]
theorem zDs (p q:Rat):Rat.divInt (p.num * q.num) (p.den * q.den)=p * q:=by
 rw [<-Rat.divInt_mul_divInt,Rat.num_divInt_den,Rat.num_divInt_den]
theorem zDM (p q:Rat):Rat.divInt (p.num * q.den) (p.den * q.num)=p / q:=by
 rw [<-Rat.divInt_mul_divInt,Rat.num_divInt_den,Rat.div_def,Rat.inv_def]
theorem zHj {q:Rat}:q.num≠0 ↔ q≠0:=by
 constructor
 ·intro h e;exact h (by rw [e];rfl)
 ·intro h e;exact h (Rat.num_eq_zero.mp e)
def Sz (n:Nat) (q:Rat):Prop:=q.num.natAbs < 2^n/\q.den < 2^n
theorem Sz.mono {m n:Nat} {q:Rat} (h:Sz m q) (l:m<=n):Sz n q:=
 ⟨Nat.lt_of_lt_of_le h.1 (Nat.pow_le_pow_right (by decide) l),Nat.lt_of_lt_of_le h.2 (Nat.pow_le_pow_right (by decide) l)⟩
theorem zLp {t b:Int} (hb:b≠0):(Rat.divInt t b).num.natAbs<=t.natAbs:=by
 rw [<-uC hb,lV (wL t b),Int.natAbs_ediv_of_dvd (wL t b)]
 exact Nat.div_le_self ..
theorem zBC {t b:Int} (hb:b≠0):(Rat.divInt t b).den<=b.natAbs:=by
 rw [Rat.den_divInt,if_neg hb]
 exact Nat.div_le_self ..
theorem Sz.of {n:Nat} {t b:Int} (hb:b≠0) (ht:t.natAbs < 2^n) (h:b.natAbs < 2^n):Sz n (Rat.divInt t b):=
 ⟨Nat.lt_of_le_of_lt (zLp hb) ht,Nat.lt_of_le_of_lt (zBC hb) h⟩
theorem eA {a b:Int} {m n:Nat} (ha:a.natAbs < 2^m) (hb:b.natAbs < 2^n):(a * b).natAbs < 2^(m+n):=by
 rw [Int.natAbs_mul,Nat.pow_add]
 exact Nat.mul_lt_mul'' ha hb
theorem zJV {a b:Int} {m:Nat} (ha:a.natAbs < 2^m) (hb:b.natAbs < 2^m):(a+b).natAbs < 2^(m+1):=by
 rw [Nat.pow_succ];omega
theorem zKn {a b:Int} {m:Nat} (ha:a.natAbs < 2^m) (hb:b.natAbs < 2^m):(a - b).natAbs < 2^(m+1):=by
 rw [Nat.pow_succ];omega
theorem Sz.d {n:Nat} {q:Rat} (h:Sz n q):((q.den:Int)).natAbs < 2^n:=h.2
theorem Sz.add {m n:Nat} {p q:Rat} (hp:Sz m p) (hq:Sz n q):Sz (m+n+1) (p+q):=by
 rw [<-zHm]
 refine Sz.of (by have:=iF p;have:=iF q;exact Int.mul_ne_zero (dA p) (dA q)) (zJV (eA hp.1 hq.d) ?_) ?_
 ·rw [Nat.add_comm m n];exact eA hq.1 hp.d
 ·exact Nat.lt_of_lt_of_le (eA hp.d hq.d) (Nat.pow_le_pow_right (by decide) (by omega))
theorem Sz.sub {m n:Nat} {p q:Rat} (hp:Sz m p) (hq:Sz n q):Sz (m+n+1) (p - q):=by
 rw [<-zEB]
 refine Sz.of (Int.mul_ne_zero (dA p) (dA q)) (zKn (eA hp.1 hq.d) ?_) ?_
 ·rw [Nat.add_comm m n];exact eA hq.1 hp.d
 ·exact Nat.lt_of_lt_of_le (eA hp.d hq.d) (Nat.pow_le_pow_right (by decide) (by omega))
theorem Sz.mul {m n:Nat} {p q:Rat} (hp:Sz m p) (hq:Sz n q):Sz (m+n) (p * q):=by
 rw [<-zDs]
 exact Sz.of (Int.mul_ne_zero (dA p) (dA q)) (eA hp.1 hq.1) (eA hp.d hq.d)
theorem Sz.div {m n:Nat} {p q:Rat} (hp:Sz m p) (hq:Sz n q) (h:q≠0):Sz (m+n) (p / q):=by
 rw [<-zDM]
 exact Sz.of (Int.mul_ne_zero (dA p) (zHj.mpr h)) (eA hp.1 hq.d) (eA hp.d hq.1)
end Fq
namespace Fr
open L3 PySem Fq
theorem zHe {t:Tv} {b:Sv} {ρ:Rho} (P:Rho->Prop) (μ:Rho->Nat) (Q:Res Fl->Prop) (h0:P ρ)
  (step:∀ ρ,P ρ->(t ρ=.ok false/\Q (.ok (.nx ρ)))∨(t ρ=.ok true/\∃ ρ',b ρ=.ok (.nx ρ')/\P ρ'/\μ ρ' < μ ρ)):Q (eN t b ρ):=by
 have main:∀ n ρ,μ ρ<=n->P ρ->Q (eN t b ρ):=by
  intro n
  induction n with
  | zero=>
   intro ρ hn hp
   rw [xE]
   rcases step ρ hp with ⟨h1,h2⟩ | ⟨h1,ρ',h2,h3,h4⟩
   ·rw [h1];exact h2
   ·omega
  | succ n ih=>
   intro ρ hn hp
   rw [xE]
   rcases step ρ hp with ⟨h1,h2⟩ | ⟨h1,ρ',h2,h3,h4⟩
   ·rw [h1];exact h2
   ·rw [h1]
    simp only [Res.bind,if_true,h2]
    exact ih ρ' (by omega) h3
 exact main _ ρ (Nat.le_refl _) h0
theorem zDe {i:Int} {m:Nat} (h:i.natAbs < 2^m):nb i<=m+1:=zMx (Nat.lt_of_lt_of_le h (Nat.pow_le_pow_right (by decide) (by omega))) (by omega)
theorem bN {i j:Int} {m n:Nat} (hi:i.natAbs < 2^m) (hj:j.natAbs < 2^n) (h:m+n<=100000000):hJ i j=true:=by
 unfold hJ
 have h1:=zDe hi
 have h2:=zDe hj
 rw [Bool.or_eq_true]
 exact .inr (decide_eq_true (by omega))
theorem zIJ {i j:Int} (h1:-(2^64) < j) (h2:j < 2^64):hJ i j=true:=by
 unfold hJ
 rw [Bool.or_eq_true,Bool.or_eq_true]
 exact .inl (.inr (by rw [decide_eq_true h1,decide_eq_true h2];rfl))
theorem zIK {i j:Int} (h1:-(2^64) < i) (h2:i < 2^64):hJ i j=true:=by
 unfold hJ
 rw [Bool.or_eq_true,Bool.or_eq_true]
 exact .inl (.inl (by rw [decide_eq_true h1,decide_eq_true h2];rfl))
theorem pL {j:Int} {m:Nat} (h0:j≠0) (hj:j.natAbs < 2^m) (h:m<=8999):jP j=true:=by
 unfold jP
 have h1:=zDe hj
 rw [decide_eq_true h0,decide_eq_true (show nb j<=9000 by omega)]
 rfl
theorem okDiv_lit {j:Int} (h0:0 < j) (h:j < 1000000000000000000):jP j=true:=pL (m:=64) (by omega) (by omega) (by decide)
theorem okMul_litr {i j:Int} (h1:-1000000000000000000 < j) (h2:j < 1000000000000000000):hJ i j=true:=zIJ (by omega) (by omega)
theorem okMul_litl {i j:Int} (h1:-1000000000000000000 < i) (h2:i < 1000000000000000000):hJ i j=true:=zIK (by omega) (by omega)
theorem p10 (n:Nat):(0:Int) < 10^n:=Int.pow_pos (by decide)
theorem p10ne (n:Nat):((10:Int)^n=0)=False:=eq_false (by have:=p10 n;omega)
theorem p10pos2 (n:Nat):(0:Int) < 2 * 10^n:=by have:=p10 n;omega
theorem p10ne2 (n:Nat):((2:Int) * 10^n=0)=False:=eq_false (by have:=p10 n;omega)
theorem okp30:rR 10 30=true:=by decide
def dq (q:Rat):D:=.tup [.int q.num,.int (q.den:Int)]
def dp (p:Rat×Rat):D:=.tup [dq p.1,dq p.2]
theorem eq_dq (p q:Rat):eqD (dq p) (dq q)=decide (p=q):=by
 show ((p.num==q.num) && (((p.den:Int)==(q.den:Int)) && true))=decide (p=q)
 by_cases h:p=q
 ·subst h;simp
 ·rw [decide_eq_false h]
  by_cases h1:p.num=q.num
  ·have h2:p.den≠q.den:=fun e=>h (Rat.ext h1 e)
   have:((p.den:Int)==(q.den:Int))=false:=by simp;omega
   rw [this];simp
  ·simp [h1]
theorem dep_dq (q:Rat):dep (dq q)=1:=rfl
theorem ix_dq0 (q:Rat):oIx (dq q) (.int 0)=.ok (.int q.num):=rfl
theorem ix_dq1 (q:Rat):oIx (dq q) (.int 1)=.ok (.int (q.den:Int)):=rfl
theorem ty_dq (q:Rat):tyN (dq q) = "tuple" := rfl
theorem len_dq (q:Rat):kZ [dq q]=.ok (.int 2):=rfl
theorem oEq_dq (p q:Rat):oEq (dq p) (dq q)=.ok (.bl (decide (p=q))):=by
 rw [<-eq_dq];rfl
theorem oNe_dq (p q:Rat):oNe (dq p) (dq q)=.ok (.bl (!decide (p=q))):=by
 rw [<-eq_dq];rfl
theorem noL_dq (q:Rat):noL (dq q)=true:=rfl
theorem zHJ (p q:Rat×Rat):eqD (dp p) (dp q)=decide (p=q):=by
 show (eqD (dq p.1) (dq q.1) && (eqD (dq p.2) (dq q.2) && true))=decide (p=q)
 rw [eq_dq,eq_dq]
 obtain ⟨a,b⟩:=p
 obtain ⟨c,d⟩:=q
 simp
theorem dp_mk (a b:Rat):(.tup [dq a,dq b]:D)=dp (a,b):=rfl
theorem ix_dp0 (p:Rat×Rat):oIx (dp p) (.int 0)=.ok (dq p.1):=rfl
theorem ix_dp1 (p:Rat×Rat):oIx (dp p) (.int 1)=.ok (dq p.2):=rfl
theorem ty_dp (p:Rat×Rat):tyN (dp p) = "tuple" := rfl
theorem len_dp (p:Rat×Rat):kZ [dp p]=.ok (.int 2):=rfl
theorem dep_dp (p:Rat×Rat):dep (dp p)=2:=rfl
theorem noL_dp (p:Rat×Rat):noL (dp p)=true:=rfl
theorem oEq_dp (p q:Rat×Rat):oEq (dp p) (dp q)=.ok (.bl (decide (p=q))):=by
 rw [<-zHJ];rfl
theorem oNe_dp (p q:Rat×Rat):oNe (dp p) (dp q)=.ok (.bl (!decide (p=q))):=by
 rw [<-zHJ];rfl
theorem zGN:∀ (l m:List (Rat×Rat)),zCF (l.map dp) (m.map dp)=decide (l=m)
 | [],[]=>rfl
 | [],_::_=>rfl
 | _::_,[]=>rfl
 | p::l,q::m=>by
  rw [List.map_cons,List.map_cons,zCF,zHJ,zGN l m]
  simp
theorem fdiv_pos (a:Int) {b:Int} (h:0 < b):a.fdiv b=a / b:=Int.fdiv_eq_ediv_of_nonneg a (by omega)
theorem fmod_pos (a:Int) {b:Int} (h:0 < b):a.fmod b=a % b:=Int.fmod_eq_emod_of_nonneg a (by omega)
theorem zIe (a:Int) {b:Int} (h:0<=b):a.fdiv b=a / b:=Int.fdiv_eq_ediv_of_nonneg a h
theorem zAC (a:Int) {b:Int} (h:0<=b):a.fmod b=a % b:=Int.fmod_eq_emod_of_nonneg a h
theorem wM:∀ l:List (Rat×Rat),depS (l.map dp)<=2
 | []=>Nat.zero_le _
 | q::l=>by rw [List.map_cons,depS];exact Nat.max_le.mpr ⟨Nat.le_refl _,wM l⟩
theorem zIQ (l:List (Rat×Rat)):dep (.lst (l.map dp))<=50:=by rw [dep];have:=wM l;omega
theorem zId (l:List (Rat×Rat)):dep (.tup (l.map dp))<=50:=by rw [dep];have:=wM l;omega
theorem noLs_dps:∀ l:List (Rat×Rat),noLs (l.map dp)=true
 | []=>rfl
 | q::l=>by rw [List.map_cons,noLs,noL_dp,noLs_dps l];rfl
theorem zCB {α:Type} {l:List α} {i:Nat} {a:α} (h:l[i]?=some a):l.take (i+1)=l.take i++[a]:=by rw [List.take_succ,h];rfl
theorem zIr (l m:List (Rat×Rat)):oEq (.lst (l.map dp)) (.lst (m.map dp))=.ok (.bl (decide (l=m))):=by
 unfold oEq
 rw [if_pos (zIQ l),eqD,zGN]
theorem zJG {b:Int} (h:0 < b):(.tup [.int 1,.int b]:D)=dq (Rat.divInt 1 b):=by
 have hb:b≠0:=by omega
 have e:Fq.dv 1 b=1:=by unfold Fq.dv;rw [if_neg (by omega)];simp
 unfold dq
 rw [<-Fq.uC hb,<-Fq.tY hb,e]
 simp
theorem zKU (k:Int):(.tup [.int k,.int 1]:D)=dq (k:Rat):=rfl
end Fr
namespace L3
open PySem
def zHd (b:Sv):Fl->Res Fl
 | .nx ρ=>b ρ
 | .ret r=>.ok (.ret r)
 | .brk ρ=>.ok (.brk ρ)
 | .ctn ρ=>.ok (.ctn ρ)
theorem sSeq_at {a b:Sv} {ρ:Rho}:bF a b ρ=(a ρ).bind (zHd b):=by
 unfold bF;congr;funext f;cases f<;>rfl
def ifF (a b:Sv) (ρ:Rho):Bool->Res Fl
 | true=>a ρ
 | false=>b ρ
theorem sIf_at {t:Tv} {a b:Sv} {ρ:Rho}:sIf t a b ρ=(t ρ).bind (ifF a b ρ):=by
 unfold sIf;congr;funext c;cases c<;>rfl
def zLZ (a b:Ev) (ρ:Rho):Bool->Res D
 | true=>a ρ
 | false=>b ρ
theorem eIf_at {t:Tv} {a b:Ev} {ρ:Rho}:eIf t a b ρ=(t ρ).bind (zLZ a b ρ):=by
 unfold eIf;congr;funext c;cases c<;>rfl
def zMu (b:Ev) (ρ:Rho):D->Res D
 | .bl true=>b ρ
 | .bl false=>.ok (.bl false)
 | _=>.no
theorem eAnd_at {a b:Ev} {ρ:Rho}:zKQ a b ρ=(a ρ).bind (zMu b ρ):=by
 unfold zKQ;congr;funext c;cases c<;>try rfl
 rename_i c;cases c<;>rfl
def orF (b:Ev) (ρ:Rho):D->Res D
 | .bl true=>.ok (.bl true)
 | .bl false=>b ρ
 | _=>.no
theorem eOr_at {a b:Ev} {ρ:Rho}:eOr a b ρ=(a ρ).bind (orF b ρ):=by
 unfold eOr;congr;funext c;cases c<;>try rfl
 rename_i c;cases c<;>rfl
def opF (o:Op2) (b:Ev) (ρ:Rho) (x:D):Res D:=(b ρ).bind (o x)
theorem eOp_at {o:Op2} {a b:Ev} {ρ:Rho}:eOp o a b ρ=(a ρ).bind (opF o b ρ):=rfl
def consG (d:D) (ds:List D):Res (List D):=.ok (d::ds)
def consF (r:Fv) (ρ:Rho) (d:D):Res (List D):=(r ρ).bind (consG d)
theorem aCons_at {e:Ev} {r:Fv} {ρ:Rho}:aE e r ρ=(e ρ).bind (consF r ρ):=rfl
def tupF (ds:List D):Res D:=if ds.length<=16777216 then .ok (.tup ds) else .no
theorem eTup_at {a:Fv} {ρ:Rho}:lF a ρ=(a ρ).bind tupF:=rfl
def rtF (r:Rt):Res D:=.ok r.d
def callF (m:Mir) (ds:List D):Res D:=(m ds).bind rtF
theorem eCall_at {m:Mir} {a:Fv} {ρ:Rho}:bB m a ρ=(a ρ).bind (callF m):=rfl
def isTF (T:String) (d:D):Res D:=.ok (.bl (isT T d))
theorem eIsT_at {T:String} {a:Ev} {ρ:Rho}:zGM T a ρ=(a ρ).bind (isTF T):=rfl
def frzF (d:D):Res D:=if noL d=true then .ok d else .no
theorem eFrz_at {e:Ev} {ρ:Rho}:zLB e ρ=(e (ρ.map Sl.frz)).bind frzF:=rfl
def fLstF (ds:List D):Res (List D):=if ds.length<=16777216 then .ok ds else .no
theorem fLst_at {a:Fv} {ρ:Rho}:pC a ρ=(a ρ).bind fLstF:=rfl
def rtFF:Rt->Res (List D)
 | .f ds=>.ok ds
 | .v _=>.no
def fcallF (m:Mir) (ds:List D):Res (List D):=(m ds).bind rtFF
theorem fCall_at {m:Mir} {a:Fv} {ρ:Rho}:eI m a ρ=(a ρ).bind (fcallF m):=by
 unfold eI fcallF;congr
def zBz:List D->Res (List D)
 | [.lst ds]=>.ok ds
 | [.tup ds]=>.ok ds
 | _=>.no
theorem fListF_l {ds:List D}:zBz [.lst ds]=.ok ds:=rfl
theorem fListF_t {ds:List D}:zBz [.tup ds]=.ok ds:=rfl
theorem fList_at {a:Fv} {ρ:Rho}:zGp a ρ=(a ρ).bind zBz:=rfl
def catG (x y:D):Res (List D):=match x,y with
 | .lst ds,.lst es=>if ds.length+es.length<=16777216 then .ok (ds++es) else .no
 | _,_=>.no
def catF (b:Ev) (ρ:Rho) (x:D):Res (List D):=(b ρ).bind (catG x)
theorem fCat_at {a b:Ev} {ρ:Rho}:zMr a b ρ=(a ρ).bind (catF b ρ):=rfl
def efF (ds:List D):Res D:=.ok (.lst ds)
theorem eF_at {f:Fv} {ρ:Rho}:eF f ρ=(f ρ).bind efF:=rfl
def oSF:D->Res (Option Int)
 | .int i=>.ok (some i)
 | _=>.no
theorem oS_at {e:Ev} {ρ:Rho}:oS e ρ=(e ρ).bind oSF:=by
 unfold oS;congr
def fSlH (x:D) (l h:Option Int):Res (List D):=match x with
 | .lst ds=>.ok (jJ ds l h)
 | _=>.no
def fSlG (hi:Ov) (ρ:Rho) (x:D) (l:Option Int):Res (List D):=(hi ρ).bind (fSlH x l)
def fSlF (lo hi:Ov) (ρ:Rho) (x:D):Res (List D):=(lo ρ).bind (fSlG hi ρ x)
theorem fSl_at {a:Ev} {lo hi:Ov} {ρ:Rho}:fSl a lo hi ρ=(a ρ).bind (fSlF lo hi ρ):=rfl
def zNK (x:D) (l h:Option Int):Res D:=match x with
 | .tup ds=>if (jJ ds l h).length < ds.length then .ok (.tup (jJ ds l h)) else .no
 | _=>.no
def blF:D->Res Bool
 | .bl b=>.ok b
 | _=>.no
theorem tVal_at {e:Ev} {ρ:Rho}:dR e ρ=(e ρ).bind blF:=by
 unfold dR;congr
def notF (b:Bool):Res Bool:=.ok (!b)
theorem tNotB_at {t:Tv} {ρ:Rho}:lI t ρ=(t ρ).bind notF:=rfl
def zJd (u:Tv) (ρ:Rho):Bool->Res Bool
 | true=>u ρ
 | false=>.ok false
theorem tAndB_at {t u:Tv} {ρ:Rho}:zDY t u ρ=(t ρ).bind (zJd u ρ):=by
 unfold zDY;congr;funext c;cases c<;>rfl
def zLV (u:Tv) (ρ:Rho):Bool->Res Bool
 | true=>.ok true
 | false=>u ρ
theorem tOrB_at {t u:Tv} {ρ:Rho}:zAU t u ρ=(t ρ).bind (zLV u ρ):=by
 unfold zAU;congr;funext c;cases c<;>rfl
def setF (i:Nat) (ρ:Rho) (d:D):Res Fl:=.ok (.nx (ρ.set i (.val d)))
theorem sSet_at {i:Nat} {e:Ev} {ρ:Rho}:dU i e ρ=(e ρ).bind (setF i ρ):=rfl
def ownF (i:Nat) (ρ:Rho) (ds:List D):Res Fl:=.ok (.nx (ρ.set i (.own ds)))
theorem sOwn_at {i:Nat} {f:Fv} {ρ:Rho}:zCv i f ρ=(f ρ).bind (ownF i ρ):=rfl
def dropF (ρ:Rho) (_d:D):Res Fl:=.ok (.nx ρ)
theorem sDrop_at {e:Ev} {ρ:Rho}:zR e ρ=(e ρ).bind (dropF ρ):=rfl
def retF (d:D):Res Fl:=.ok (.ret (.v d))
theorem sRet_at {e:Ev} {ρ:Rho}:jL e ρ=(e (ρ.map Sl.frz)).bind retF:=rfl
def retFF (ds:List D):Res Fl:=.ok (.ret (.f ds))
theorem sRetF_at {f:Fv} {ρ:Rho}:jO f ρ=(f (ρ.map Sl.frz)).bind retFF:=rfl
def raiseF (c:Str) (ds:List D):Res Fl:=if ds.length<=16777216 then .err c else .no
theorem sRaise_at {c:Str} {a:Fv} {ρ:Rho}:jI c a ρ=(a ρ).bind (raiseF c):=rfl
def appF (i:Nat) (ρ:Rho) (ds:List D) (d:D):Res Fl:=if ds.length < 16777216 then .ok (.nx (ρ.set i (.own (ds++[d])))) else .no
def appS (i:Nat) (e:Ev) (ρ:Rho):Option Sl->Res Fl
 | some (.own ds)=>(e ρ).bind (appF i ρ ds)
 | _=>.no
theorem sApp_at {i:Nat} {e:Ev} {ρ:Rho}:zBA i e ρ=appS i e ρ ρ[i]?:=by
 unfold zBA appS;rfl
def augF (i:Nat) (ρ:Rho) (o:Op2) (x y:D):Res Fl:=(o x y).bind (setF i ρ)
def augS (i:Nat) (o:Op2) (e:Ev) (ρ:Rho):Option Sl->Res Fl
 | some (.val x)=>(e ρ).bind (augF i ρ o x)
 | _=>.no
theorem sAug_at {i:Nat} {o:Op2} {e:Ev} {ρ:Rho}:zGK i o e ρ=augS i o e ρ ρ[i]?:=by
 unfold zGK augS;rfl
def dropG (ρ:Rho) (_r:Rt):Res Fl:=.ok (.nx ρ)
def setG (i:Nat) (ρ:Rho) (r:Rt):Res Fl:=.ok (.nx (ρ.set i (.val r.d)))
def varS:Option Sl->Res D
 | some (.val d)=>.ok d
 | _=>.no
theorem eVar_at {i:Nat} {ρ:Rho}:aK i ρ=varS ρ[i]?:=by
 unfold aK varS;rfl
def retS:Option Sl->Res Fl
 | some (.own ds)=>.ok (.ret (.f ds))
 | _=>.no
theorem sRetOwn_at {i:Nat} {ρ:Rho}:gF i ρ=retS ρ[i]?:=by
 unfold gF retS;rfl
def nxF (ρ:Rho):Res Fl:=.ok (.nx ρ)
def unpF (g:Gv) (ρ:Rho) (d:D):Res Fl:=(g d ρ).bind nxF
theorem sUnp_at {g:Gv} {f:Ev} {ρ:Rho}:zNs g f ρ=(f ρ).bind (unpF g ρ):=rfl
def gtF (gs:List D->Rho->Res Rho) (ρ:Rho):D->Res Rho
 | .tup ds=>gs ds ρ
 | _=>.no
theorem gTup_at {gs:List D->Rho->Res Rho} {d:D} {ρ:Rho}:zGW gs d ρ=gtF gs ρ d:=by
 unfold zGW gtF;rfl
theorem gCons_at {g:Gv} {r:List D->Rho->Res Rho} {d:D} {ds:List D} {ρ:Rho}:sT g r (d::ds) ρ=(g d ρ).bind (r ds):=rfl
theorem gNil_at {ρ:Rho}:zGA [] ρ=.ok ρ:=rfl
def forF (g:Gv) (b:Sv) (ρ:Rho) (ds:List D):Res Fl:=fP g b ds ρ
theorem sFor_at {it:Fv} {g:Gv} {b:Sv} {ρ:Rho}:xA it g b ρ=(it ρ).bind (forF g b ρ):=rfl
def zHh:D->Res (List D)
 | .lst ds=>.ok ds
 | .tup ds=>.ok ds
 | _=>.no
theorem seqD_l {ds:List D}:zHh (.lst ds)=.ok ds:=rfl
theorem seqD_t {ds:List D}:zHh (.tup ds)=.ok ds:=rfl
theorem iSeq_at {e:Ev} {ρ:Rho}:rX e ρ=(e ρ).bind zHh:=by
 unfold rX;congr
def zKN:List D->Res (List D)
 | [.int j]=>if -(2^62)<=j/\j < 2^62 then .ok (rng 0 j.toNat 1) else .no
 | _=>.no
theorem iRng1_at {a:Fv} {ρ:Rho}:zDV a ρ=(a ρ).bind zKN:=rfl
def zKj:List D->Res (List D)
 | [.int i,.int j]=>if -(2^62)<=i/\i < 2^62/\-(2^62)<=j/\j < 2^62 then .ok (rng i (j - i).toNat 1) else .no
 | _=>.no
theorem iRng2_at {a:Fv} {ρ:Rho}:zAK a ρ=(a ρ).bind zKj:=rfl
theorem fn_at {p n:Nat} {b:Sv} {ds:List D} (h:ds.length=p):fn p n b ds=(b (start n ds)).bind fin:=by
 unfold fn;rw [if_pos h]
theorem nr {α:Sort _} {a b:α} (h:a=b):a=b:=h
theorem okb {α β:Type} {a:α} {f:α->Res β}:(Res.ok a).bind f=f a:=nr rfl
theorem erb {α β:Type} {c:Str} {f:α->Res β}:(Res.err c).bind f=.err c:=nr rfl
theorem seqF_nx {b:Sv} {ρ:Rho}:zHd b (.nx ρ)=b ρ:=nr rfl
theorem seqF_ret {b:Sv} {r:Rt}:zHd b (.ret r)=.ok (.ret r):=nr rfl
theorem gtF_t {gs:List D->Rho->Res Rho} {ρ:Rho} {ds:List D}:gtF gs ρ (.tup ds)=gs ds ρ:=nr rfl
theorem ifF_t {a b:Sv} {ρ:Rho}:ifF a b ρ true=a ρ:=nr rfl
theorem ifF_f {a b:Sv} {ρ:Rho}:ifF a b ρ false=b ρ:=nr rfl
theorem eifF_t {a b:Ev} {ρ:Rho}:zLZ a b ρ true=a ρ:=nr rfl
theorem eifF_f {a b:Ev} {ρ:Rho}:zLZ a b ρ false=b ρ:=nr rfl
theorem andF_t {b:Ev} {ρ:Rho}:zMu b ρ (.bl true)=b ρ:=nr rfl
theorem andF_f {b:Ev} {ρ:Rho}:zMu b ρ (.bl false)=.ok (.bl false):=nr rfl
theorem orF_t {b:Ev} {ρ:Rho}:orF b ρ (.bl true)=.ok (.bl true):=nr rfl
theorem orF_f {b:Ev} {ρ:Rho}:orF b ρ (.bl false)=b ρ:=nr rfl
theorem tandF_t {u:Tv} {ρ:Rho}:zJd u ρ true=u ρ:=nr rfl
theorem tandF_f {u:Tv} {ρ:Rho}:zJd u ρ false=.ok false:=nr rfl
theorem torF_t {u:Tv} {ρ:Rho}:zLV u ρ true=.ok true:=nr rfl
theorem torF_f {u:Tv} {ρ:Rho}:zLV u ρ false=u ρ:=nr rfl
theorem oAdd_i {i j:Int}:zDu (.int i) (.int j)=.ok (.int (i+j)):=rfl
theorem oAddI_i {i j:Int}:zBk (.int i) (.int j)=.ok (.int (i+j)):=rfl
theorem oSub_i {i j:Int}:wZ (.int i) (.int j)=.ok (.int (i - j)):=rfl
theorem oMul_i {i j:Int} (h:hJ i j=true):pD (.int i) (.int j)=.ok (.int (i * j)):=if_pos h
theorem oDiv_i {i j:Int} (h:jP j=true):zDz (.int i) (.int j)=.ok (.int (i.fdiv j)):=if_pos h
theorem oMod_i {i j:Int} (h:j≠0):zCC (.int i) (.int j)=.ok (.int (i.fmod j)):=if_pos h
theorem oPow_i {i j:Int} (h:rR i j=true):zJn (.int i) (.int j)=.ok (.int (i^j.toNat)):=if_pos h
theorem oEq_i {i j:Int}:oEq (.int i) (.int j)=.ok (.bl (decide (i=j))):=rfl
theorem oNe_i {i j:Int}:oNe (.int i) (.int j)=.ok (.bl (!decide (i=j))):=rfl
theorem oLt_i {i j:Int}:oLt (.int i) (.int j)=.ok (.bl (decide (i < j))):=rfl
theorem oLe_i {i j:Int}:oLe (.int i) (.int j)=.ok (.bl (decide (i<=j))):=rfl
theorem oGt_i {i j:Int}:oGt (.int i) (.int j)=.ok (.bl (decide (j < i))):=rfl
theorem oGe_i {i j:Int}:oGe (.int i) (.int j)=.ok (.bl (decide (j<=i))):=rfl
theorem zKV {ds:List D} {i:Int}:oIx (.lst ds) (.int i)=ofO (atD ds i):=rfl
theorem ofO_some {α:Type} {a:α}:ofO (some a)=.ok a:=rfl
theorem oNeg_i {i:Int}:zGO (.int i)=.ok (.int (-i)):=rfl
theorem oNot_b {b:Bool}:zNy (.bl b)=.ok (.bl (!b)):=rfl
theorem bAbs_i {i:Int}:zGw [.int i]=.ok (.int (i.natAbs:Int)):=by
 show Res.ok (D.int (if i < 0 then -i else i))=_
 congr 2;split<;>omega
theorem bMin_i {i j:Int}:zNA [.int i,.int j]=.ok (.int (min i j)):=by
 show Res.ok (D.int (if j < i then j else i))=_
 congr 2;split<;>omega
theorem zHV {j:Int} (h1:-(2^62)<=j) (h2:j < 2^62):zKN [.int j]=.ok (rng 0 j.toNat 1):=if_pos ⟨h1,h2⟩
theorem zAm {i j:Int} (h1:-(2^62)<=i) (h2:i < 2^62) (h3:-(2^62)<=j) (h4:j < 2^62):zKj [.int i,.int j]=.ok (rng i (j - i).toNat 1):=if_pos ⟨h1,h2,h3,h4⟩
theorem wF {α:Type} {g:Gv} {b:Sv} {ds:List D} {ρ:Rho} {k:Fl->Res α} {Q:Res α->Prop} (P:Rho->Prop) (h0:P ρ)
  (st:∀ d ρ,d∈ds->P ρ->∃ ρ2,(g d ρ).bind b=.ok (.nx ρ2)/\P ρ2) (fi:∀ ρ',P ρ'->Q (k (.nx ρ'))):Q ((fP g b ds ρ).bind k):=by
 suffices h:∃ ρ',fP g b ds ρ=.ok (.nx ρ')/\P ρ' by
  obtain ⟨ρ',e,hp⟩:=h
  rw [e]
  exact fi ρ' hp
 clear fi
 induction ds generalizing ρ with
 | nil=>exact ⟨ρ,rfl,h0⟩
 | cons d ds ih=>
  obtain ⟨ρ2,e,hp⟩:=st d ρ List.mem_cons_self h0
  obtain ⟨ρ',e',hp'⟩:=ih hp fun d' ρ' hd=>st d' ρ' (List.mem_cons_of_mem _ hd)
  refine ⟨ρ',?_,hp'⟩
  rw [fP]
  cases hg:g d ρ with
  | no=>rw [hg] at e;cases e
  | err c=>rw [hg] at e;cases e
  | ok ρ1=>
   rw [hg] at e
   have e2:b ρ1=.ok (.nx ρ2):=e
   simp only [Res.bind,e2]
   exact e'
theorem ty_i {i:Int}:tyN (.int i) = "int" := rfl
theorem ty_b {b:Bool}:tyN (.bl b) = "bool" := rfl
theorem ty_t {ds:List D}:tyN (.tup ds) = "tuple" := rfl
theorem ty_l {ds:List D}:tyN (.lst ds) = "list" := rfl
theorem ty_s {x:Str}:tyN (.str x) = "str" := rfl
theorem ty_n:tyN .non = "NoneType" := rfl
theorem bLen_t {ds:List D}:kZ [.tup ds]=.ok (.int ds.length):=rfl
theorem bLen_l {ds:List D}:kZ [.lst ds]=.ok (.int ds.length):=rfl
theorem bTup_t {ds:List D}:zHb [.tup ds]=.ok (.tup ds):=rfl
theorem bTup_l {ds:List D}:zHb [.lst ds]=.ok (.tup ds):=rfl
theorem lG {α:Type} {g:Gv} {b:Sv} {ds:List D} {ρ:Rho} {k:Fl->Res α} {Q:Res α->Prop} (P:Nat->Rho->Prop) (h0:P 0 ρ)
  (st:∀ i d ρ,ds[i]?=some d->P i ρ->∃ ρ2,(g d ρ).bind b=.ok (.nx ρ2)/\P (i+1) ρ2) (fi:∀ ρ',P ds.length ρ'->Q (k (.nx ρ'))):Q ((fP g b ds ρ).bind k):=by
 suffices h:∀ (ds:List D) (j:Nat) (ρ:Rho),P j ρ->(∀ i d ρ,ds[i]?=some d->P (j+i) ρ->∃ ρ2,(g d ρ).bind b=.ok (.nx ρ2)/\P (j+i+1) ρ2)->∃ ρ',fP g b ds ρ=.ok (.nx ρ')/\P (j+ds.length) ρ' by
  obtain ⟨ρ',e,hp⟩:=h ds 0 ρ h0 (fun i d ρ hd hp=>by rw [Nat.zero_add] at hp ⊢;exact st i d ρ hd hp)
  rw [e]
  exact fi ρ' (by rw [Nat.zero_add] at hp;exact hp)
 intro ds
 induction ds with
 | nil=>intro j ρ hp _;exact ⟨ρ,rfl,hp⟩
 | cons d ds ih=>
  intro j ρ hp st
  obtain ⟨ρ2,e,hp2⟩:=st 0 d ρ rfl hp
  obtain ⟨ρ',e',hp'⟩:=ih (j+1) ρ2 hp2 fun i d' ρ' hd hp=>by
   have:=st (i+1) d' ρ' (by simpa using hd) (by rw [show j+(i+1)=j+1+i by omega];exact hp)
   rw [show j+(i+1)=j+1+i by omega] at this
   exact this
  refine ⟨ρ',?_,by rw [List.length_cons,show j+(ds.length+1)=j+1+ds.length by omega];exact hp'⟩
  rw [fP]
  cases hg:g d ρ with
  | no=>rw [hg] at e;cases e
  | err c=>rw [hg] at e;cases e
  | ok ρ1=>
   rw [hg] at e
   have e2:b ρ1=.ok (.nx ρ2):=e
   simp only [Res.bind,e2]
   exact e'
theorem zEh {lo c:Int} {n i:Nat} {d:D} (h:(rng lo n c)[i]?=some d):i < n/\d=.int (lo+(i:Int) * c):=by
 unfold rng at h
 rw [List.getElem?_map] at h
 by_cases hi:i < n
 ·rw [List.getElem?_range hi] at h
  cases h
  exact ⟨hi,rfl⟩
 ·rw [List.getElem?_eq_none (by rw [List.length_range];omega)] at h
  cases h
theorem zJQ {lo c:Int} {n:Nat}:(rng lo n c).length=n:=by unfold rng;rw [List.length_map,List.length_range]
def zIj (t:Tv) (f:Ev) (ρ:Rho) (ds:List D):Res (List D):=if ds.length<=16777215 then gG t f ρ ds else .no
theorem fComp_at {it:Fv} {t:Tv} {f:Ev} {ρ:Rho}:oA it t f ρ=(it ρ).bind (zIj t f ρ):=rfl
theorem zBf {d:D} (h:dep d<=50):oNe d d=.ok (.bl false):=by unfold oNe;rw [if_pos h,mE];rfl
theorem zAE {d:D} (h:dep d<=50):oEq d d=.ok (.bl true):=by unfold oEq;rw [if_pos h,mE]
theorem zGj {ds:List D} {k:Int} (h:0<=k):jJ ds none (some k)=ds.take k.toNat:=by
 unfold jJ cut
 simp only [h,if_true,List.drop_zero,Nat.sub_zero]
 rcases Nat.le_total k.toNat ds.length with l | l
 ·rw [Nat.min_eq_left l]
 ·rw [Nat.min_eq_right l,List.take_length,List.take_of_length_le l]
theorem zFy {α:Type} (l:List α) (a:Nat):l.drop (min a l.length)=l.drop a:=by
 rcases Nat.le_total a l.length with h | h
 ·rw [Nat.min_eq_left h]
 ·rw [Nat.min_eq_right h,List.drop_length,List.drop_eq_nil_of_le h]
theorem zEy {ds:List D} {a b:Int} (h1:0<=a) (h2:0<=b):jJ ds (some a) (some b)=(ds.drop a.toNat).take (b.toNat - a.toNat):=by
 unfold jJ cut
 simp only [h1,h2,if_true]
 rw [zFy]
 rcases Nat.le_total ds.length a.toNat with c | c
 ·rw [List.drop_eq_nil_of_le c,List.take_nil,List.take_nil]
 ·rw [Nat.min_eq_left c]
  rcases Nat.le_total b.toNat ds.length with d | d
  ·rw [Nat.min_eq_left d]
  ·rw [Nat.min_eq_right d,List.take_of_length_le (by rw [List.length_drop];exact Nat.le_refl _),List.take_of_length_le (by rw [List.length_drop];exact Nat.sub_le_sub_right d _)]
theorem rD {α:Type} {f:α->D} {l:List α} {i:Int} {a:α} (h0:0<=i) (h:l[i.toNat]?=some a):oIx (.lst (l.map f)) (.int i)=.ok (f a):=by
 show ofO (atD (l.map f) i)=_
 unfold atD
 rw [if_pos h0,List.getElem?_map,h]
 rfl
def popS (i:Nat) (ρ:Rho):Option Sl->Res Fl
 | some (.own ds)=>if ds.length=0 then .no else .ok (.nx (ρ.set i (.own ds.dropLast)))
 | _=>.no
theorem sPop_at {i:Nat} {ρ:Rho}:zJJ i ρ=popS i ρ ρ[i]?:=by unfold zJJ popS;rfl
theorem oIx_tc {d:D} {ds:List D} {i:Int}:oIx (.tup (d::ds)) (.int i)=ofO (atD (d::ds) i):=rfl
theorem wA {α:Type} {f:α->D} {l:List α} {i:Int} {a:α} (h0:0<=i) (h:l[i.toNat]?=some a):oIx (.tup (l.map f)) (.int i)=.ok (f a):=by
 show ofO (atD (l.map f) i)=_
 unfold atD
 rw [if_pos h0,List.getElem?_map,h]
 rfl
theorem zHf {α:Type} {f:α->D} {l:List α} {k:Nat} {a:α} (h0:0 < k) (h:k<=l.length) (h2:l[l.length - k]?=some a):atD (l.map f) (-(k:Int))=some (f a):=by
 unfold atD
 rw [if_neg (by omega),List.length_map,if_pos (by omega),show ((l.length:Int)+-(k:Int)).toNat=l.length - k by omega,List.getElem?_map,h2]
 rfl
theorem uX {α:Type} {f:α->D} {l:List α} {k:Nat} {i:Int} {a:α} (hi:i=-(k:Int)) (h0:0 < k) (h:k<=l.length) (h2:l[l.length - k]?=some a):oIx (.lst (l.map f)) (.int i)=.ok (f a):=by
 show ofO (atD (l.map f) i)=_
 rw [hi,zHf h0 h h2]
 rfl
theorem zID {α:Type} {f:α->D} {l:List α} {k:Nat} {i:Int} {a:α} (hi:i=-(k:Int)) (h0:0 < k) (h:k<=l.length) (h2:l[l.length - k]?=some a):oIx (.tup (l.map f)) (.int i)=.ok (f a):=by
 show ofO (atD (l.map f) i)=_
 rw [hi,zHf h0 h h2]
 rfl
def zMa (ds:List D):D->Res (List D)
 | .int k=>if 0<=k/\k < 2^62/\ds.length * k.toNat<=16777216 then .ok (List.replicate k.toNat ds).flatten else .no
 | _=>.no
def repF (g:Ev) (ρ:Rho) (ds:List D):Res (List D):=(g ρ).bind (zMa ds)
theorem fRep_at {f:Fv} {g:Ev} {ρ:Rho}:zHS f g ρ=(f ρ).bind (repF g ρ):=by
 unfold zHS repF;congr
theorem zBT {d:D} {k:Nat} (h:k<=16777216):zMa [d] (.int (k:Int))=.ok (List.replicate k d):=by
 have e:∀ n,(List.replicate n [d]).flatten=List.replicate n d:=by
  intro n
  induction n with
  | zero=>rfl
  | succ n ih=>rw [List.replicate_succ,List.flatten_cons,ih];rfl
 unfold zMa
 dsimp only
 rw [if_pos ⟨by omega,by omega,by simp only [List.length_cons,List.length_nil,Int.toNat_natCast];omega⟩,Int.toNat_natCast,e]
theorem zDW {α:Type} {u:α->D} {f:Ev} {ρ:Rho} {g:α->D}:∀ {l:List α},(∀ a∈l,f (ρ++[.val (u a)])=.ok (g a))->gG rM f ρ (l.map u)=.ok (l.map g)
 | [],_=>rfl
 | a::l,h=>by
  rw [List.map_cons,gG,h a List.mem_cons_self]
  simp only [rM,noErr,Res.bind,if_true]
  rw [zDW fun b hb=>h b (List.mem_cons_of_mem _ hb)]
  rfl
theorem jD {α:Type} {u:α->D} {f:Ev} {ρ:Rho} {g:α->D} {l:List α} (hl:l.length<=16777215) (h:∀ a∈l,f (ρ++[.val (u a)])=.ok (g a)):zIj rM f ρ (l.map u)=.ok (l.map g):=by
 unfold zIj;rw [if_pos (by rw [List.length_map];exact hl),zDW h]
theorem bSum_l {ns:List Int}:xI [.lst (ns.map D.int)]=.ok (.int ns.sum):=by
 have e:∀ ns:List Int,oU (ns.map D.int)=some ns:=by
  intro ns
  induction ns with
  | nil=>rfl
  | cons i ns ih=>rw [List.map_cons,oU,ih]
 show (match oU (ns.map D.int) with | some ns=>Res.ok (D.int ns.sum) | none=>.no)=_
 rw [e]
theorem bSum_t {ns:List Int}:xI [.tup (ns.map D.int)]=.ok (.int ns.sum):=by
 have e:∀ ns:List Int,oU (ns.map D.int)=some ns:=by
  intro ns
  induction ns with
  | nil=>rfl
  | cons i ns ih=>rw [List.map_cons,oU,ih]
 show (match oU (ns.map D.int) with | some ns=>Res.ok (D.int ns.sum) | none=>.no)=_
 rw [e]
def slI (i:Nat) (ρ:Rho):Int:=match ρ[i]? with
 | some (.val (.int x))=>x
 | _=>0
theorem chO_s {c:Nat}:chO (some c)=.ok (.str ⟨#[c]⟩):=rfl
theorem zLn {x:Str}:dep (.str x)<=50:=by simp [dep]
theorem oEq_s {x y:Str}:oEq (.str x) (.str y)=.ok (.bl (x==y)):=by
 unfold oEq;rw [if_pos zLn,eqD]
theorem oNe_s {x y:Str}:oNe (.str x) (.str y)=.ok (.bl (!(x==y))):=by
 unfold oNe;rw [if_pos zLn,eqD]
theorem dG {g:Gv} {b:Sv} {d:D} {ds:List D} {ρ ρ1 ρ2:Rho} (hg:g d ρ=.ok ρ1) (hb:b ρ1=.ok (.nx ρ2)):fP g b (d::ds) ρ=fP g b ds ρ2:=by
 rw [fP]
 simp only [hg,Res.bind,hb]
theorem oTabNot_s {T:List (Str×Str)} {x:Str}:nZ T (.str x)=.ok (.bl (!(T.lookup x).isSome)):=rfl
def zMN:List D->Res (List D)
 | [x,y]=>match zFq x,zFq y with
  | some xs,some ys=>.ok (iD xs ys)
  | _,_=>.no
 | _=>.no
theorem iZip_at {a:Fv} {ρ:Rho}:zIC a ρ=(a ρ).bind zMN:=by
 unfold zIC;congr
theorem oE {x y:D} {xs ys:List D} (hx:zFq x=some xs) (hy:zFq y=some ys):zMN [x,y]=.ok (iD xs ys):=by
 show (match zFq x,zFq y with | some xs,some ys=>Res.ok (iD xs ys) | _,_=>.no)=_
 rw [hx,hy]
def zBn (f:Ev) (ρ:Rho) (ds:List D):Res (List D):=if ds.length<=16777215 then eX f ρ ds else .no
theorem fComp2_at {it:Fv} {f:Ev} {ρ:Rho}:oH it f ρ=(it ρ).bind (zBn f ρ):=rfl
theorem zBx {α β:Type} {u:α->D} {v:β->D} {f:Ev} {ρ:Rho} {g:α->β->D}:∀ {l:List α} {m:List β},(∀ p∈l.zip m,f (ρ++[.val (u p.1),.val (v p.2)])=.ok (g p.1 p.2))->
  eX f ρ (iD (l.map u) (m.map v))=.ok ((l.zip m).map fun p=>g p.1 p.2)
 | [],m,h=>by cases m<;>rfl
 | a::l,[],h=>rfl
 | a::l,b::m,h=>by
  have h1:=h (a,b) List.mem_cons_self
  have h2:=zBx (l:=l) (m:=m) (u:=u) (v:=v) (g:=g) fun p hp=>h p (List.mem_cons_of_mem _ hp)
  show (noErr (f (ρ++[.val (u a),.val (v b)]))).bind (fun e=>(eX f ρ (iD (l.map u) (m.map v))).bind fun es=>.ok (e::es))=_
  rw [h1,h2]
  rfl
theorem iI {α β:Type} {u:α->D} {v:β->D} {f:Ev} {ρ:Rho} {g:α->β->D} {l:List α} {m:List β} (hl:l.length<=16777215) (h:∀ p∈l.zip m,f (ρ++[.val (u p.1),.val (v p.2)])=.ok (g p.1 p.2)):
  zBn f ρ (iD (l.map u) (m.map v))=.ok ((l.zip m).map fun p=>g p.1 p.2):=by
 unfold zBn
 rw [if_pos,zBx h]
 have:∀ (a b:List D),(iD a b).length<=a.length:=by
  intro a
  induction a with
  | nil=>intro b;cases b<;>exact Nat.le_refl _
  | cons x a ih=>intro b;cases b with
   | nil=>exact Nat.zero_le _
   | cons y b=>exact Nat.succ_le_succ (ih b)
 exact Nat.le_trans (this _ _) (by rw [List.length_map];exact hl)
end L3
namespace Ln
open Fq
abbrev Pt:=Rat×Rat
def asc (a b:Pt):Prop:=a.1 < b.1/\a.2<=b.2
def btw (a b c:Pt):Bool:=decide ((b.2 - a.2) * (c.1 - b.1)=(c.2 - b.2) * (b.1 - a.1))
def push:List Pt->Pt->List Pt
 | b::a::s,c=>if btw a b c=true then c::a::s else c::b::a::s
 | s,c=>c::s
theorem zCr {s:List Pt} {c:Pt} (h:¬ 1 < s.length):push s c=c::s:=by
 match s,h with
 | [],_=>rfl
 | [b],_=>rfl
 | b::a::s,h=>exact absurd (show 1 < s.length+2 by omega) h
def kX (ps:List Pt):List Pt:=(ps.foldl push []).reverse
def few:Pt->List Pt->List Pt
 | _,[]=>[]
 | _,[b]=>[b]
 | a,b::c::r=>if btw a b c=true then few b (c::r) else b::few b (c::r)
def dZ:List Pt->List Pt
 | []=>[]
 | a::r=>a::few a r
def dir (a p b:Pt):Prop:=a.1 < b.1/\p.1 < b.1/\(b.2 - a.2) * (b.1 - p.1)=(b.2 - p.2) * (b.1 - a.1)
theorem jH {x a b:Rat} (h:x≠0) (e:a * x=b * x):a=b:=by
 have:a * x * x⁻¹=b * x * x⁻¹:=by rw [e]
 rw [Rat.mul_assoc,Rat.mul_assoc,Rat.mul_inv_cancel _ h,Rat.mul_one,Rat.mul_one] at this
 exact this
theorem qN {a p b c:Pt} (h:dir a p b):btw a b c=btw p b c:=by
 obtain ⟨h1,h2,h3⟩:=h
 unfold btw
 have n1:b.1 - a.1≠0:=by grind
 have n2:b.1 - p.1≠0:=by grind
 congr 1
 apply propext
 constructor
 ·intro e
  refine jH n1 ?_
  grind
 ·intro e
  refine jH n2 ?_
  grind
theorem zAH {a b c:Pt} (h:a.1 < b.1) (k:b.1 < c.1) (e:btw a b c=true):dir a b c:=by
 have e:=of_decide_eq_true e
 refine ⟨by grind,k,?_⟩
 grind
theorem wT:∀ (r:List Pt) (p b a:Pt) (s:List Pt),dir a p b->(b::r).Pairwise asc->(r.foldl push (b::a::s)).reverse=(a::s).reverse++few p (b::r)
 | [],p,b,a,s,_,_=>by simp [few]
 | c::r,p,b,a,s,h,hp=>by
  have hbc:asc b c:=(List.pairwise_cons.mp hp).1 c List.mem_cons_self
  have hr:=(List.pairwise_cons.mp hp).2
  rw [List.foldl_cons,push,few,qN h]
  by_cases e:btw p b c=true
  ·rw [if_pos e,if_pos e]
   exact wT r b c a s (zAH h.1 hbc.1 (by rw [qN h];exact e)) hr
  ·rw [if_neg e,if_neg e,wT r b c b (a::s) ⟨hbc.1,hbc.1,rfl⟩ hr]
   simp
theorem kB {ps:List Pt} (h:ps.Pairwise asc):kX ps=dZ ps:=by
 unfold kX
 match ps,h with
 | [],_=>rfl
 | [a],_=>rfl
 | a::b::r,h=>
  have hab:=(List.pairwise_cons.mp h).1 b List.mem_cons_self
  show (r.foldl push [b,a]).reverse=_
  rw [wT r a b a [] ⟨hab.1,hab.1,rfl⟩ (List.pairwise_cons.mp h).2]
  rfl
theorem zAY:∀ (r:List Pt) (a:Pt),(few a r).Sublist r
 | [],_=>List.Sublist.slnil
 | [b],_=>List.Sublist.refl _
 | b::c::r,a=>by
  rw [few]
  split
  ·exact (zAY (c::r) b).cons b
  ·exact (zAY (c::r) b).cons₂ b
theorem uB (ps:List Pt):(dZ ps).Sublist ps:=by
 cases ps with
 | nil=>exact List.Sublist.slnil
 | cons a r=>exact (zAY r a).cons₂ a
theorem zBl:∀ (r:List Pt) (a:Pt),(few a r).getLast?=r.getLast?
 | [],_=>rfl
 | [b],_=>rfl
 | b::c::r,a=>by
  have ih:=zBl (c::r) b
  rw [few]
  split
  ·rw [ih];rfl
  ·rw [List.getLast?_cons,ih]
   simp [List.getLast?_cons]
theorem zAS (ps:List Pt):(dZ ps).getLast?=ps.getLast?:=by
 cases ps with
 | nil=>rfl
 | cons a r=>rw [dZ,List.getLast?_cons,zBl,List.getLast?_cons]
def zCU:List Pt->Prop
 | a::b::c::r=>btw a b c=false/\zCU (b::c::r)
 | _=>True
theorem zBP:∀ (r:List Pt) (a:Pt),zCU (a::r)->few a r=r
 | [],_,_=>rfl
 | [b],_,_=>rfl
 | b::c::r,a,h=>by
  rw [few,h.1,zBP (c::r) b h.2]
  rfl
theorem zAx {ps:List Pt} (h:zCU ps):dZ ps=ps:=by
 cases ps with
 | nil=>rfl
 | cons a r=>rw [dZ,zBP r a h]
theorem zBM:∀ (r:List Pt) (p b:Pt),(p::b::r).Pairwise asc->∃ d t,few p (b::r)=d::t/\b.1<=d.1/\(d.2 - p.2) * (b.1 - p.1)=(b.2 - p.2) * (d.1 - p.1)
 | [],p,b,_=>⟨b,[],rfl,Rat.le_refl,rfl⟩
 | c::r,p,b,h=>by
  have h1:=List.pairwise_cons.mp h
  have h2:=List.pairwise_cons.mp h1.2
  have pb:=h1.1 b List.mem_cons_self
  have bc:=h2.1 c List.mem_cons_self
  rw [few]
  by_cases e:btw p b c=true
  ·rw [if_pos e]
   obtain ⟨d,t,e1,l,e2⟩:=zBM r b c h1.2
   have e3:=of_decide_eq_true e
   refine ⟨d,t,e1,by grind [asc],?_⟩
   have n:c.1 - b.1≠0:=by grind [asc]
   refine jH n ?_
   have e4:(d.2 - b.2) * (b.1 - p.1)=(b.2 - p.2) * (d.1 - b.1):=by
    refine jH n ?_
    grind
   grind
  ·rw [if_neg e]
   exact ⟨b,_,rfl,Rat.le_refl,rfl⟩
theorem uM:∀ (r:List Pt) (a p b:Pt),dir a p b->(b::r).Pairwise asc->(p::b::r).Pairwise asc->zCU (a::few p (b::r))
 | [],a,p,b,_,_,_=>by simp [few,zCU]
 | c::r,a,p,b,h,hb,hp=>by
  have bc:=(List.pairwise_cons.mp hb).1 c List.mem_cons_self
  have hc:=(List.pairwise_cons.mp hb).2
  rw [few]
  by_cases e:btw p b c=true
  ·rw [if_pos e]
   exact uM r a b c (zAH h.1 bc.1 (by rw [qN h];exact e)) hc hb
  ·rw [if_neg e]
   have ih:=uM r b b c ⟨bc.1,bc.1,rfl⟩ hc hb
   obtain ⟨d,t,e1,l,e2⟩:=zBM r b c hb
   rw [e1] at ih ⊢
   refine ⟨?_,ih⟩
   rw [qN h]
   rw [Bool.eq_false_iff]
   intro z
   apply e
   have z:=of_decide_eq_true z
   refine decide_eq_true ?_
   have n:d.1 - b.1≠0:=by grind [asc]
   refine jH n ?_
   grind
theorem zBi {ps:List Pt} (h:ps.Pairwise asc):zCU (dZ ps):=by
 match ps,h with
 | [],_=>trivial
 | [a],_=>trivial
 | a::b::r,h=>
  have hab:=(List.pairwise_cons.mp h).1 b List.mem_cons_self
  exact uM r a a b ⟨hab.1,hab.1,rfl⟩ (List.pairwise_cons.mp h).2 h
def Ok (ps:List Pt):Prop:=ps.head?=some (0,0)/\ps.Pairwise asc
def zJl (ps:List Pt):Prop:=Ok ps/\zCU ps
theorem pU {ps:List Pt} (h:Ok ps):zJl (kX ps):=by
 rw [kB h.2]
 refine ⟨⟨?_,h.2.sublist (uB ps)⟩,zBi h.2⟩
 obtain ⟨h,_⟩:=h
 cases ps with
 | nil=>cases h
 | cons a r=>exact h
theorem qG {ps:List Pt} (h:ps.Pairwise asc) {i j:Nat} {a b:Pt} (l:i < j) (ha:ps[i]?=some a) (hb:ps[j]?=some b):asc a b:=by
 obtain ⟨hi,rfl⟩:=List.getElem?_eq_some_iff.mp ha
 obtain ⟨hj,rfl⟩:=List.getElem?_eq_some_iff.mp hb
 exact List.pairwise_iff_getElem.mp h i j hi hj l
def SzP (n:Nat) (p:Pt):Prop:=Sz n p.1/\Sz n p.2
theorem lt_iff {p q:Rat}:p.num * q.den < q.num * p.den ↔ p < q:=Rat.lt_iff p q |>.symm
def Gd (N:Nat) (K:Nat) (q:Rat):Prop:=∃ a:Int,q=Rat.divInt a N/\a.natAbs<=K
theorem Gd.add {N K L:Nat} {p q:Rat} (hp:Gd N K p) (hq:Gd N L q) (h0:N≠0):Gd N (K+L) (p+q):=by
 obtain ⟨a,rfl,h⟩:=hp
 obtain ⟨b,rfl,k⟩:=hq
 refine ⟨a+b,?_,by omega⟩
 have hN:(N:Int)≠0:=by omega
 rw [Rat.divInt_add_divInt _ _ hN hN,<-Int.add_mul,Rat.divInt_mul_right hN]
theorem Gd.of {t b:Int} {N K:Nat} (hb:0 < b) (hd:b ∣ (N:Int)) (h0:N≠0) (hK:t.natAbs * N<=K):Gd N K (Rat.divInt t b):=by
 obtain ⟨c,hc⟩:=hd
 have c0:c≠0:=by intro z;rw [z,Int.mul_zero] at hc;omega
 refine ⟨t * c,by rw [hc,Rat.divInt_mul_right c0],?_⟩
 rw [Int.natAbs_mul]
 refine Nat.le_trans (Nat.mul_le_mul_left _ ?_) hK
 have:N=b.natAbs * c.natAbs:=by rw [<-Int.natAbs_mul,<-hc];rfl
 rw [this]
 exact Nat.le_mul_of_pos_left _ (by omega)
def itp (p q:Pt) (x:Rat):Rat:=p.2+(x - p.1) / (q.1 - p.1) * (q.2 - p.2)
def dQ:List Pt->Rat->Rat
 | [],_=>0
 | [p],_=>p.2
 | p::q::r,x=>if x<=q.1 then itp p q x else dQ (q::r) x
theorem zKv (p q:Pt):itp p q p.1=p.2:=by
 unfold itp
 rw [Rat.sub_self,Rat.div_def,Rat.zero_mul,Rat.zero_mul,Rat.add_zero]
theorem zKO {p q:Pt} (h:p.1 < q.1):itp p q q.1=q.2:=by
 unfold itp
 have n:q.1 - p.1≠0:=by grind
 rw [Rat.div_def,Rat.mul_inv_cancel _ n,Rat.one_mul]
 grind
theorem gY:∀ {ps:List Pt},ps.Pairwise asc->∀ {i:Nat} {p:Pt},ps[i]?=some p->dQ ps p.1=p.2
 | [],_,i,p,hp=>by cases hp
 | [a],_,i,p,hp=>by
  cases i with
  | zero=>cases hp;rfl
  | succ i=>cases hp
 | a::b::r,h,i,p,hp=>by
  have hab:=(List.pairwise_cons.mp h).1 b List.mem_cons_self
  rw [dQ]
  match i,hp with
  | 0,hp=>
   cases hp
   rw [if_pos (Rat.le_of_lt hab.1),zKv]
  | 1,hp=>
   cases hp
   rw [if_pos Rat.le_refl,zKO hab.1]
  | i+2,hp=>
   have hb:asc b p:=qG h (show 1 < i+2 by omega) rfl hp
   rw [if_neg (by have:=hb.1;grind)]
   exact gY (List.pairwise_cons.mp h).2 (i:=i+1) hp
theorem qB:∀ {ps:List Pt},ps.Pairwise asc->∀ {i:Nat} {p q:Pt} {x:Rat},ps[i]?=some p->ps[i+1]?=some q->p.1<=x->x<=q.1->dQ ps x=itp p q x
 | [],_,i,p,q,x,hp,_,_,_=>by cases hp
 | [a],_,i,p,q,x,hp,hq,_,_=>by cases hq
 | a::b::r,h,i,p,q,x,hp,hq,h1,h2=>by
  have hab:=(List.pairwise_cons.mp h).1 b List.mem_cons_self
  cases i with
  | zero=>
   cases hp
   cases hq
   rw [dQ,if_pos h2]
  | succ i=>
   have hr:=(List.pairwise_cons.mp h).2
   by_cases c:x=p.1
   ·subst c
    rw [zKv]
    exact gY h hp
   ·rw [dQ,if_neg]
    ·exact qB hr (i:=i) hp hq h1 h2
    ·intro z
     cases i with
     | zero=>
      cases hp
      exact c (by grind)
     | succ i=>
      have hb:asc b p:=qG h (show 1 < i+1+1 by omega) rfl hp
      have:=hb.1
      grind
def ax:Bool->Pt->Rat
 | false,p=>p.1
 | true,p=>p.2
theorem zAo {ps:List Pt} (h:ps.Pairwise asc) (b:Bool) {i j:Nat} {p q:Pt} (l:i<=j) (hp:ps[i]?=some p) (hq:ps[j]?=some q):ax b p<=ax b q:=by
 rcases Nat.lt_or_eq_of_le l with l | l
 ·have:=qG h l hp hq
  cases b
  ·exact Rat.le_of_lt this.1
  ·exact this.2
 ·subst l
  rw [hp] at hq
  cases hq
  exact Rat.le_refl
theorem zFj:∀ {ps:List Pt} {e:Pt} {x:Rat},ps.Pairwise asc->ps.getLast?=some e->(∀ p,ps.head?=some p->p.1<=x)->x<=e.1->
  (∃ (i:Nat) (p:Pt),ps[i]?=some p/\p.1=x)∨∃ (i:Nat) (p q:Pt),ps[i]?=some p/\ps[i+1]?=some q/\p.1 < x/\x < q.1
 | [],e,x,_,he,_,_=>by cases he
 | [a],e,x,_,he,h0,h1=>by
  cases he
  have:=h0 a rfl
  exact .inl ⟨0,a,rfl,by grind⟩
 | a::b::r,e,x,h,he,h0,h1=>by
  have ha:=h0 a rfl
  by_cases c:a.1=x
  ·exact .inl ⟨0,a,rfl,c⟩
  by_cases d:x < b.1
  ·exact .inr ⟨0,a,b,rfl,rfl,by grind,d⟩
  ·rcases zFj (List.pairwise_cons.mp h).2 (by rw [<-he];simp [List.getLast?_cons]) (fun p hp=>by cases hp;grind) h1 with ⟨i,p,h2,h3⟩ | ⟨i,p,q,h2,h3,h4⟩
   ·exact .inl ⟨i+1,p,h2,h3⟩
   ·exact .inr ⟨i+1,p,q,h2,h3,h4⟩
theorem zCo {a b c:Pt} (h1:a.1 < b.1) (h2:b.1 < c.1) (e:btw a b c=true):(b.2 - a.2) / (b.1 - a.1)=(c.2 - a.2) / (c.1 - a.1)/\(c.2 - b.2) / (c.1 - b.1)=(c.2 - a.2) / (c.1 - a.1):=by
 have e:=of_decide_eq_true e
 have n1:b.1 - a.1≠0:=by grind
 have n2:c.1 - b.1≠0:=by grind
 have n3:c.1 - a.1≠0:=by grind
 have i1:=Rat.mul_inv_cancel _ n1
 have i2:=Rat.mul_inv_cancel _ n2
 have i3:=Rat.mul_inv_cancel _ n3
 rw [Rat.div_def,Rat.div_def,Rat.div_def]
 constructor
 ·refine jH n1 (jH n3 ?_)
  grind
 ·refine jH n2 (jH n3 ?_)
  grind
theorem iL (p q:Pt) (x:Rat):itp p q x=p.2+(x - p.1) * ((q.2 - p.2) / (q.1 - p.1)):=by
 unfold itp
 rw [Rat.div_def,Rat.div_def]
 grind
theorem zFU {a b c:Pt} (h1:a.1 < b.1) (h2:b.1 < c.1) (e:btw a b c=true) (x:Rat):itp a b x=itp a c x/\itp b c x=itp a c x:=by
 obtain ⟨s1,s2⟩:=zCo h1 h2 e
 rw [iL,iL,iL,s1,s2]
 refine ⟨rfl,?_⟩
 have n1:b.1 - a.1≠0:=by grind
 have i1:=Rat.mul_inv_cancel _ n1
 rw [<-s1,Rat.div_def]
 generalize (b.1 - a.1)⁻¹=u at i1
 grind
theorem zGh {a b c:Pt} {r:List Pt} (h1:a.1 < b.1) (h2:b.1 < c.1) (e:btw a b c=true) (x:Rat):dQ (a::b::c::r) x=dQ (a::c::r) x:=by
 obtain ⟨e1,e2⟩:=zFU h1 h2 e x
 rw [dQ,dQ,dQ,e1,e2]
 by_cases c1:x<=b.1
 ·rw [if_pos c1,if_pos (by grind)]
 ·rw [if_neg c1]
theorem zAF:∀ (r:List Pt) (a p b:Pt) (x:Rat),dir a p b->(b::r).Pairwise asc->dQ (a::few p (b::r)) x=dQ (a::b::r) x
 | [],a,p,b,x,_,_=>rfl
 | c::r,a,p,b,x,h,hb=>by
  have bc:=(List.pairwise_cons.mp hb).1 c List.mem_cons_self
  have hc:=(List.pairwise_cons.mp hb).2
  rw [few]
  by_cases e:btw p b c=true
  ·have e':btw a b c=true:=by rw [qN h];exact e
   rw [if_pos e,zAF r a b c x (zAH h.1 bc.1 e') hc,zGh h.1 bc.1 e']
  ·show _=(if x<=b.1 then itp a b x else dQ (b::c::r) x)
   rw [if_neg e,dQ,zAF r b b c x ⟨bc.1,bc.1,rfl⟩ hc]
theorem uE {ps:List Pt} (h:ps.Pairwise asc) (x:Rat):dQ (kX ps) x=dQ ps x:=by
 rw [kB h]
 match ps,h with
 | [],_=>rfl
 | [a],_=>rfl
 | a::b::r,h=>
  have hab:=(List.pairwise_cons.mp h).1 b List.mem_cons_self
  exact zAF r a a b x ⟨hab.1,hab.1,rfl⟩ (List.pairwise_cons.mp h).2
theorem qT {ps:List Pt} (h:ps.Pairwise asc):(kX ps).getLast?=ps.getLast?:=by rw [kB h,zAS]
theorem uG {ps:List Pt} (h:ps.Pairwise asc):(kX ps).Sublist ps:=by rw [kB h];exact uB ps
theorem kL {a p:Pt} {r:List Pt} (h:(a::p::r).Pairwise asc) {x:Rat} (hx:p.1<=x):dQ (a::p::r) x=dQ (p::r) x:=by
 have hp:=(List.pairwise_cons.mp h).2
 have ap:=(List.pairwise_cons.mp h).1 p List.mem_cons_self
 rw [dQ]
 by_cases c:x<=p.1
 ·have e:x=p.1:=by grind
  rw [if_pos c,e,zKO ap.1]
  exact (gY hp (i:=0) rfl).symm
 ·rw [if_neg c]
theorem yV {a p q e f:Pt} {r s:List Pt} (hr:(a::p::r).Pairwise asc) (hs:(a::q::s).Pairwise asc) (br:zCU (a::p::r)) (er:(a::p::r).getLast?=some e) (es:(a::q::s).getLast?=some f) (ef:e.1=f.1)
  (hv:∀ x,a.1<=x->x<=e.1->dQ (a::p::r) x=dQ (a::q::s) x):¬ p.1 < q.1:=by
 intro l
 have ap:=(List.pairwise_cons.mp hr).1 p List.mem_cons_self
 have aq:=(List.pairwise_cons.mp hs).1 q List.mem_cons_self
 have qf:q.1<=f.1:=by
  rw [List.getLast?_eq_getElem?] at es
  exact zAo hs false (i:=1) (show 1<=(a::q::s).length - 1 by simp) rfl es
 cases r with
 | nil=>
  cases er
  have:p.1=f.1:=ef
  grind
 | cons u r=>
  have hp:=(List.pairwise_cons.mp hr).2
  have pu:=(List.pairwise_cons.mp hp).1 u List.mem_cons_self
  have ue:u.1<=e.1:=by
   rw [List.getLast?_eq_getElem?] at er
   exact zAo hr false (i:=2) (show 2<=(a::p::u::r).length - 1 by simp) rfl er
  have key:∀ x,p.1 < x->x<=u.1->x<=q.1->btw a p u=true:=by
   intro x h1 h2 h3
   have v1:=hv p.1 (Rat.le_of_lt ap.1) (by grind)
   have v2:=hv x (by have:=ap.1;grind) (by grind)
   rw [kL hr Rat.le_refl,gY hp (i:=0) rfl,dQ,if_pos (Rat.le_of_lt l)] at v1
   rw [kL hr (Rat.le_of_lt h1),dQ,if_pos h2,dQ,if_pos h3] at v2
   rw [iL] at v1
   rw [iL,iL] at v2
   generalize (q.2 - a.2) / (q.1 - a.1)=k at v1 v2
   have n1:x - p.1≠0:=by grind
   have n2:u.1 - p.1≠0:=by have:=pu.1;grind
   have i2:=Rat.mul_inv_cancel _ n2
   rw [Rat.div_def] at v2
   generalize (u.1 - p.1)⁻¹=w at i2 v2
   have s1:(u.2 - p.2) * w=k:=by
    refine jH n1 ?_
    grind
   refine decide_eq_true ?_
   have s2:u.2 - p.2=k * (u.1 - p.1):=by
    have:(u.2 - p.2) * w * (u.1 - p.1)=k * (u.1 - p.1):=by rw [s1]
    grind
   grind
  have nb:=br.1
  by_cases c:u.1<=q.1
  ·rw [key u.1 pu.1 Rat.le_refl c] at nb
   cases nb
  ·rw [key q.1 l (by grind) Rat.le_refl] at nb
   cases nb
theorem zBD:∀ (r s:List Pt) (a e f:Pt),(a::r).Pairwise asc->(a::s).Pairwise asc->zCU (a::r)->zCU (a::s)->(a::r).getLast?=some e->(a::s).getLast?=some f->e.1=f.1->
  (∀ x,a.1<=x->x<=e.1->dQ (a::r) x=dQ (a::s) x)->r=s
 | [],[],_,_,_,_,_,_,_,_,_,_,_=>rfl
 | [],q::s,a,e,f,_,hs,_,_,er,es,ef,_=>by
  cases er
  rw [List.getLast?_eq_getElem?] at es
  have:=(qG hs (i:=0) (show 0 < (a::q::s).length - 1 by simp) rfl es).1
  grind
 | p::r,[],a,e,f,hr,_,_,_,er,es,ef,_=>by
  cases es
  rw [List.getLast?_eq_getElem?] at er
  have:=(qG hr (i:=0) (show 0 < (a::p::r).length - 1 by simp) rfl er).1
  grind
 | p::r,q::s,a,e,f,hr,hs,br,bs,er,es,ef,hv=>by
  have n1:=yV hr hs br er es ef hv
  have n2:=yV hs hr bs es er ef.symm fun x h1 h2=>(hv x h1 (by rw [ef];exact h2)).symm
  have pq:p.1=q.1:=by grind
  have hp:=(List.pairwise_cons.mp hr).2
  have hq:=(List.pairwise_cons.mp hs).2
  have ap:=(List.pairwise_cons.mp hr).1 p List.mem_cons_self
  have pe:p.1<=e.1:=by
   have er':=er
   rw [List.getLast?_eq_getElem?] at er'
   exact zAo hr false (i:=1) (show 1<=(a::p::r).length - 1 by simp) rfl er'
  have v:=hv p.1 (Rat.le_of_lt ap.1) pe
  rw [kL hr Rat.le_refl,gY hp (i:=0) rfl,kL hs (show q.1<=p.1 by grind),pq,gY hq (i:=0) rfl] at v
  have e1:p=q:=Prod.ext pq v
  subst e1
  have br':zCU (p::r):=by
   cases r with
   | nil=>trivial
   | cons u r=>exact br.2
  have bs':zCU (p::s):=by
   cases s with
   | nil=>trivial
   | cons u s=>exact bs.2
  rw [zBD r s p e f hp hq br' bs' (by rw [<-er];simp [List.getLast?_cons]) (by rw [<-es];simp [List.getLast?_cons]) ef fun x h1 h2=>by
   have:=hv x (by have:=ap.1;grind) h2
   rw [kL hr h1,kL hs h1] at this
   exact this]
theorem zDk {ps qs:List Pt} {e f:Pt} (hp:zJl ps) (hq:zJl qs) (he:ps.getLast?=some e) (hf:qs.getLast?=some f) (ef:e.1=f.1) (hv:∀ x,0<=x->x<=e.1->dQ ps x=dQ qs x):ps=qs:=by
 cases ps with
 | nil=>cases he
 | cons a r=>
  cases qs with
  | nil=>cases hf
  | cons b s=>
   have h1:=hp.1.1
   have h2:=hq.1.1
   cases h1
   cases h2
   rw [zBD r s (0,0) e f hp.1.2 hq.1.2 hp.2 hq.2 he hf ef hv]
end Ln
namespace L3
open PySem PySem.Spec PyProof.Rows L2
abbrev St:=L2.St
mutual
inductive IsD (K:PySem.W.Frag) (H:Hp):V->D->Prop where
 | non:IsD K H .non .non
 | bl (b:Bool):IsD K H (.bl b) (.bl b)
 | int (i:Int):IsD K H (.int i) (.int i)
 | str (x:Str):IsD K H (.str x) (.str x)
 | tup {a:Addr} {xs:List V} {ds:List D}:SqT K H a xs->IsDs K H xs ds->IsD K H (.ref a) (.tup ds)
 | lst {a:Addr} {xs:List V} {ds:List D}:SqL K H a xs->IsDs K H xs ds->IsD K H (.ref a) (.lst ds)
inductive IsDs (K:PySem.W.Frag) (H:Hp):List V->List D->Prop where
 | nil:IsDs K H [] []
 | cons {v:V} {d:D} {vs:List V} {ds:List D}:IsD K H v d->IsDs K H vs ds->IsDs K H (v::vs) (d::ds)
end
theorem _root_.L2.Same.rd {H H':Hp} (e:Same H H') {a:Addr} {u:HO} (h:Rd H a u):Rd H' a u:=by
 rcases h with h | ⟨o,h⟩
 ·exact .inl (e _ _ h)
 ·exact .inr ⟨o,e _ _ h⟩
theorem cD {K:PySem.W.Frag} {H H':Hp} (e:Same H H') {a:Addr} {xs:List V} (h:SqT K H a xs):SqT K H' a xs:=h.imp (Same.rd e) id
theorem cK {K:PySem.W.Frag} {H H':Hp} (e:Same H H') {a:Addr} {xs:List V} (h:SqL K H a xs):SqL K H' a xs:=h.imp (Same.rd e) id
section
variable {K:PySem.W.Frag} {H H':Hp}
mutual
theorem IsD.mono (e:Same H H'):∀ {v:V} {d:D},IsD K H v d->IsD K H' v d
 | _,_,.non=>.non
 | _,_,.bl b=>.bl b
 | _,_,.int i=>.int i
 | _,_,.str x=>.str x
 | _,_,.tup h hs=>.tup (cD e h) (IsDs.mono e hs)
 | _,_,.lst h hs=>.lst (cK e h) (IsDs.mono e hs)
theorem IsDs.mono (e:Same H H'):∀ {vs:List V} {ds:List D},IsDs K H vs ds->IsDs K H' vs ds
 | _,_,.nil=>.nil
 | _,_,.cons h hs=>.cons (IsD.mono e h) (IsDs.mono e hs)
end
theorem IsDs.length:∀ {vs:List V} {ds:List D},IsDs K H vs ds->vs.length=ds.length
 | _,_,.nil=>rfl
 | _,_,.cons _ hs=>by rw [List.length_cons,List.length_cons,IsDs.length hs]
theorem IsDs.at:∀ {vs:List V} {ds:List D} {j:Nat} {d:D},IsDs K H vs ds->ds[j]?=some d->∃ v,vs[j]?=some v/\IsD K H v d
 | _,_,_,_,.nil,e=>by simp at e
 | _,_,0,_,.cons r _,e=>by simp at e;subst e;exact ⟨_,rfl,r⟩
 | _,_,j+1,d,.cons _ t,e=>by
  obtain ⟨v,h1,h2⟩:=IsDs.at (j:=j) (d:=d) t (by simpa using e)
  exact ⟨v,by simpa using h1,h2⟩
theorem IsDs.append:∀ {vs ws:List V} {ds es:List D},IsDs K H vs ds->IsDs K H ws es->IsDs K H (vs++ws) (ds++es)
 | _,_,_,_,.nil,s=>s
 | _,_,_,_,.cons r t,s=>.cons r (IsDs.append t s)
theorem IsDs.take:∀ {vs:List V} {ds:List D} (n:Nat),IsDs K H vs ds->IsDs K H (vs.take n) (ds.take n)
 | _,_,0,_=>.nil
 | _,_,_+1,.nil=>.nil
 | _,_,n+1,.cons r t=>.cons r (IsDs.take n t)
theorem IsDs.drop:∀ {vs:List V} {ds:List D} (n:Nat),IsDs K H vs ds->IsDs K H (vs.drop n) (ds.drop n)
 | _,_,0,r=>r
 | _,_,_+1,.nil=>.nil
 | _,_,n+1,.cons _ t=>IsDs.drop n t
theorem IsDs.dropLast:∀ {vs:List V} {ds:List D},IsDs K H vs ds->IsDs K H vs.dropLast ds.dropLast
 | _,_,.nil=>.nil
 | _,_,.cons _ .nil=>.nil
 | _,_,.cons r (.cons q t)=>.cons r (IsDs.dropLast (.cons q t))
theorem IsDs.set {v:V} {d:D} (h:IsD K H v d):∀ {vs:List V} {ds:List D} (j:Nat),IsDs K H vs ds->IsDs K H (vs.set j v) (ds.set j d)
 | _,_,_,.nil=>.nil
 | _,_,0,.cons _ t=>.cons h t
 | _,_,j+1,.cons q t=>.cons q (IsDs.set h j t)
mutual
theorem IsD.noL (k:∀ b xs,Rd H b (.tup xs)->Rd H' b (.tup xs)):∀ {v:V} {d:D},IsD K H v d->L3.noL d=true->IsD K H' v d
 | _,_,.non,_=>.non
 | _,_,.bl b,_=>.bl b
 | _,_,.int i,_=>.int i
 | _,_,.str x,_=>.str x
 | _,_,.tup h hs,e=>.tup (h.imp (k _ _) id) (IsDs.noL k hs (by rw [L3.noL] at e;exact e))
 | _,_,.lst h hs,e=>by rw [L3.noL] at e;cases e
theorem IsDs.noL (k:∀ b xs,Rd H b (.tup xs)->Rd H' b (.tup xs)):∀ {vs:List V} {ds:List D},IsDs K H vs ds->L3.noLs ds=true->IsDs K H' vs ds
 | _,_,.nil,_=>.nil
 | _,_,.cons h hs,e=>by
  rw [L3.noLs,Bool.and_eq_true] at e
  exact .cons (IsD.noL k h e.1) (IsDs.noL k hs e.2)
end
end
theorem IsD.intI {K:PySem.W.Frag} {H:Hp} {v:V} {i:Int} (h:IsD K H v (.int i)):v=.int i:=by cases h;rfl
theorem IsD.blI {K:PySem.W.Frag} {H:Hp} {v:V} {b:Bool} (h:IsD K H v (.bl b)):v=.bl b:=by cases h;rfl
theorem IsD.strI {K:PySem.W.Frag} {H:Hp} {v:V} {x:Str} (h:IsD K H v (.str x)):v=.str x:=by cases h;rfl
theorem IsD.tupI {K:PySem.W.Frag} {H:Hp} {v:V} {ds:List D} (h:IsD K H v (.tup ds)):∃ a xs,v=.ref a/\SqT K H a xs/\IsDs K H xs ds:=by
 cases h with
 | tup h hs=>exact ⟨_,_,rfl,h,hs⟩
theorem IsD.lstI {K:PySem.W.Frag} {H:Hp} {v:V} {ds:List D} (h:IsD K H v (.lst ds)):∃ a xs,v=.ref a/\SqL K H a xs/\IsDs K H xs ds:=by
 cases h with
 | lst h hs=>exact ⟨_,_,rfl,h,hs⟩
def oT:Str := "ranked.<locals>.<lambda>"
def zA (P:Addr) (H:Hp):Prop:=∃ ps,H P=some (.tbl ps)/\TriplesOk ps.toList/\∀ (pos:Pos) (cv:Value),codeAmong pos ps.toList=some cv->∃ c oc vs t u,cv=.ref c/\H c=some (.frz oc u)/\oc.data=.fields vs/\vs[1]?=some (.str oT t)
theorem zA.put {P a:Addr} {H:Hp} {x:HO} (h:zA P H) (h1:∀ ps,H a≠some (.tbl ps)) (h2:∀ o u,H a≠some (.frz o u)):zA P (upd H a x):=by
 obtain ⟨ps,e,t,k⟩:=h
 refine ⟨ps,by rw [bA (show P≠a from fun z=>h1 ps (by rw [<-z];exact e))];exact e,t,fun pos cv q=>?_⟩
 obtain ⟨c,oc,vs,tk,u,r1,r2,r3⟩:=k pos cv q
 exact ⟨c,oc,vs,tk,u,r1,by rw [bA (show c≠a from fun z=>h2 oc u (by rw [<-z];exact r2))];exact r2,r3⟩
structure Keep (H H':Hp):Prop where
 k:∀ b o,H b=some o->H' b=some o∨∃ ps ps',o=.tbl ps/\H' b=some (.tbl ps')
 t:∀ P,zA P H->zA P H'
theorem Keep.refl (H:Hp):Keep H H:=⟨fun _ _ e=>.inl e,fun _ e=>e⟩
theorem Keep.trans {H H1 H2:Hp} (a:Keep H H1) (b:Keep H1 H2):Keep H H2:=
 ⟨fun c o e=>by
  rcases a.k c o e with z | ⟨ps,ps',rfl,z⟩
  ·exact b.k c o z
  ·rcases b.k c _ z with y | ⟨qs,qs',_,y⟩
   ·exact .inr ⟨ps,ps',rfl,y⟩
   ·exact .inr ⟨ps,qs',rfl,y⟩,fun P e=>b.t P (a.t P e)⟩
theorem Keep.at {H H':Hp} (k:Keep H H') {b:Addr} {o:HO} (e:H b=some o) (ho:∀ ps,o≠.tbl ps:=by intro ps z;cases z):H' b=some o:=by
 rcases k.k b o e with z | ⟨ps,ps',z,_⟩
 ·exact z
 ·exact absurd z (ho ps)
theorem Keep.none {H H':Hp} (k:Keep H H') {p:Addr} (e:H' p=none):H p=none:=by
 cases z:H p with
 | none=>rfl
 | some o=>rcases k.k p o z with y | ⟨_,_,_,y⟩<;>(rw [y] at e;cases e)
structure Ext (Hi H Hi' H':Hp):Prop where
 i:Same Hi Hi'
 h:Keep H H'
 s:Same Hi' H'
 n:∀ b,Hi b=none->Hi' b≠none->H b=none
theorem Ext.refl {Hi H:Hp} (h:Same Hi H):Ext Hi H Hi H:=⟨Same.refl _,Keep.refl _,h,fun _ e q=>absurd e q⟩
theorem Ext.trans {Hi H Hi1 H1 Hi2 H2:Hp} (a:Ext Hi H Hi1 H1) (b:Ext Hi1 H1 Hi2 H2):Ext Hi H Hi2 H2:=
 ⟨a.i.trans b.i,a.h.trans b.h,b.s,fun c e q=>by
  cases z:Hi1 c with
  | some o=>exact a.n c e (by rw [z];exact fun w=>by cases w)
  | none=>
   have z2:=b.n c z q
   exact a.h.none z2⟩
theorem cU {H:Hp} {p:Addr} (h:H p=none) (o:HO):Same H (upd H p o):=fun b u q=>by rw [bA (aY q h)];exact q
theorem zBE {H:Hp} {p:Addr} (h:H p=none) (o:HO):Keep H (upd H p o):=⟨fun b u q=>.inl (cU h o b u q),fun P e=>e.put (fun ps z=>by rw [h] at z;cases z) (fun ob u z=>by rw [h] at z;cases z)⟩
theorem _root_.L2.Same.none {H H':Hp} (h:Same H H') {p:Addr} (e:H' p=none):H p=none:=by
 cases z:H p with
 | none=>rfl
 | some o=>rw [h _ _ z] at e;cases e
theorem Ext.new {Hi H:Hp} {p:Addr} {o:HO} (h:Same Hi H) (hp:H p=none):Ext Hi H (upd Hi p o) (upd H p o) where
 i:=cU (h.none hp) o
 h:=zBE hp o
 s:=fun b u q=>by
  by_cases e:b=p
  ·subst e;rw [aW] at q ⊢;exact q
  ·rw [bA e] at q ⊢;exact h _ _ q
 n:=fun b e q=>by
  by_cases z:b=p
  ·rw [z];exact hp
  ·rw [bA z] at q;exact absurd e q
theorem Ext.newF {Hi H:Hp} {p:Addr} {o:HO} (h:Same Hi H) (hp:H p=none):Ext Hi H Hi (upd H p o) where
 i:=Same.refl _
 h:=zBE hp o
 s:=h.trans (cU hp o)
 n:=fun b e q=>absurd e q
theorem Ext.out {Hi H Hi' H':Hp} (e:Ext Hi H Hi' H') {a:Addr} {o:HO} (h:H a=some o) (hi:Hi a=none) (ho:∀ ps,o≠.tbl ps:=by intro ps z;cases z):H' a=some o/\Hi' a=none:=by
 refine ⟨e.h.at h ho,?_⟩
 cases z:Hi' a with
 | none=>rfl
 | some u=>have:=e.n a hi (by rw [z];exact fun w=>by cases w);rw [h] at this;cases this
theorem Ext.hold {Hi H Hi' H':Hp} (e:Ext Hi H Hi' H') {a:Addr} {o:HO} (hn:H a=none) (h:H' a=some o) (hi:Hi' a=none):Ext Hi H (upd Hi' a o) H' where
 i:=e.i.trans (cU hi o)
 h:=e.h
 s:=fun b u q=>by
  by_cases z:b=a
  ·subst z;rw [aW] at q;cases q;exact h
  ·rw [bA z] at q;exact e.s _ _ q
 n:=fun b z q=>by
  by_cases w:b=a
  ·rw [w];exact hn
  ·rw [bA w] at q;exact e.n b z q
def zMc (a C:Addr):Heap->Prop:=fun h=>∃ o vs,h.get? a=some o/\o.cls=.ref C/\o.data=.fields vs
def kvT (T:List (Str×Str)):List (Key×V):=T.map fun q=>(Sum.inr q.1,V.str q.2)
def zBV (K:PySem.W.Frag) (mg:Str->Option Value) (B Hi H:Hp) (o:Option (Option V)):Sl->Prop
 | .un=>True
 | .val d=>∃ v,o=some (some v)/\IsD K Hi v d
 | .own ds=>∃ a xs,o=some (some (.ref a))/\H a=some (.lst xs)/\Hi a=none/\B a=none/\IsDs K Hi xs ds
 | .exc c=>∃ a C,o=some (some (.ref a))/\H a=some (.ext (zMc a C))/\Hi a=none/\B a=none/\mg c=some (.ref C)
 | .tab T=>∃ a,o=some (some (.ref a))/\Hi a=some (.dK (kvT T))
structure Rel (K:PySem.W.Frag) (mg:Str->Option Value) (B Bi Hi H:Hp) (σ:St) (ρ:Rho):Prop where
 len:σ.length=ρ.length
 ext:Ext Bi B Hi H
 slot:∀ (i:Nat) (s:Sl),ρ[i]?=some s->zBV K mg B Hi H σ[i]? s
 dist:∀ (i j:Nat) (a:Addr) (ds es:List D),ρ[i]?=some (.own ds)->ρ[j]?=some (.own es)->σ[i]?=some (some (.ref a))->σ[j]?=some (some (.ref a))->i=j
section
variable {K:PySem.W.Frag} {mg:Str->Option Value} {B Bi Hi H Hi' H':Hp} {σ:St} {ρ:Rho}
theorem zBV.ext {o:Option (Option V)} {s:Sl} (h:zBV K mg B Hi H o s) (e:Ext Hi H Hi' H'):zBV K mg B Hi' H' o s:=by
 cases s with
 | un=>trivial
 | val d=>obtain ⟨v,q,r⟩:=h;exact ⟨v,q,r.mono e.i⟩
 | own ds=>
  obtain ⟨a,xs,q,h1,h2,h3,h4⟩:=h
  obtain ⟨e1,e2⟩:=e.out h1 h2
  exact ⟨a,xs,q,e1,e2,h3,h4.mono e.i⟩
 | exc c=>
  obtain ⟨a,C,q,h1,h2,h3,h4⟩:=h
  obtain ⟨e1,e2⟩:=e.out h1 h2
  exact ⟨a,C,q,e1,e2,h3,h4⟩
 | tab T=>obtain ⟨a,q,h1⟩:=h;exact ⟨a,q,e.i _ _ h1⟩
theorem Rel.grow (R:Rel K mg B Bi Hi H σ ρ) (e:Ext Hi H Hi' H'):Rel K mg B Bi Hi' H' σ ρ:=⟨R.len,R.ext.trans e,fun i s q=>(R.slot i s q).ext e,R.dist⟩
theorem Rel.s (R:Rel K mg B Bi Hi H σ ρ):Same Hi H:=R.ext.s
theorem Rel.set {i:Nat} {v:V} {d:D} (R:Rel K mg B Bi Hi H σ ρ) (h:IsD K Hi v d):Rel K mg B Bi Hi H (σ.set i (some v)) (ρ.set i (.val d)) where
 len:=by rw [List.length_set,List.length_set];exact R.len
 ext:=R.ext
 slot:=fun j s q=>by
  by_cases e:i=j
  ·subst e
   by_cases hl:i < ρ.length
   ·rw [List.getElem?_set_self hl] at q;cases q
    exact ⟨v,by rw [List.getElem?_set_self (by rw [R.len];exact hl)],h⟩
   ·rw [List.getElem?_eq_none (by rw [List.length_set];omega)] at q;cases q
  ·rw [List.getElem?_set_ne e] at q ⊢
   exact R.slot j s q
 dist:=fun j k a ds es q1 q2 q3 q4=>by
  have h1:∀ {j:Nat} {ds:List D},(ρ.set i (.val d))[j]?=some (.own ds)->i≠j:=fun {j ds} q e=>by
   subst e
   by_cases hl:i < ρ.length
   ·rw [List.getElem?_set_self hl] at q;cases q
   ·rw [List.getElem?_eq_none (by rw [List.length_set];omega)] at q;cases q
  have n1:=h1 q1
  have n2:=h1 q2
  rw [List.getElem?_set_ne n1] at q1 q3
  rw [List.getElem?_set_ne n2] at q2 q4
  exact R.dist j k a ds es q1 q2 q3 q4
theorem Rel.setOwn {i:Nat} {a:Addr} {xs:List V} {ds:List D} (R:Rel K mg B Bi Hi H σ ρ) (e:Ext Hi H Hi' H') (hn:H a=none) (h:H' a=some (.lst xs)) (hi:Hi' a=none) (hs:IsDs K Hi' xs ds):
  Rel K mg B Bi Hi' H' (σ.set i (some (.ref a))) (ρ.set i (.own ds)) where
 len:=by rw [List.length_set,List.length_set];exact R.len
 ext:=R.ext.trans e
 slot:=fun j s q=>by
  by_cases z:i=j
  ·subst z
   by_cases hl:i < ρ.length
   ·rw [List.getElem?_set_self hl] at q;cases q
    exact ⟨a,xs,by rw [List.getElem?_set_self (by rw [R.len];exact hl)],h,hi,R.ext.h.none hn,hs⟩
   ·rw [List.getElem?_eq_none (by rw [List.length_set];omega)] at q;cases q
  ·rw [List.getElem?_set_ne z] at q ⊢
   exact (R.slot j s q).ext e
 dist:=fun j k b es fs q1 q2 q3 q4=>by
  have h1:∀ {j:Nat} {es:List D},i≠j->ρ[j]?=some (.own es)->σ[j]?=some (some (.ref a))->False:=fun {j es} _ p1 p2=>by
   obtain ⟨a',xs',q,h1,_⟩:=R.slot j _ p1
   rw [p2] at q
   cases q
   rw [hn] at h1;cases h1
  have h2:∀ {j:Nat} {es:List D},(ρ.set i (.own ds))[j]?=some (.own es)->i < σ.length∨i≠j:=fun {j es} p=>by
   by_cases z:i=j
   ·subst z
    by_cases hl:i < ρ.length
    ·exact .inl (by rw [R.len];exact hl)
    ·rw [List.getElem?_eq_none (by rw [List.length_set];omega)] at p;cases p
   ·exact .inr z
  by_cases z1:i=j
  ·by_cases z2:i=k
   ·rw [<-z1,<-z2]
   ·exfalso
    subst z1
    have hl:i < σ.length:=(h2 q1).resolve_right (fun w=>w rfl)
    rw [List.getElem?_set_self hl] at q3;cases q3
    rw [List.getElem?_set_ne z2] at q2 q4
    exact h1 z2 q2 q4
  ·by_cases z2:i=k
   ·exfalso
    subst z2
    have hl:i < σ.length:=(h2 q2).resolve_right (fun w=>w rfl)
    rw [List.getElem?_set_self hl] at q4;cases q4
    rw [List.getElem?_set_ne z1] at q1 q3
    exact h1 z1 q1 q3
   ·rw [List.getElem?_set_ne z1] at q1 q3
    rw [List.getElem?_set_ne z2] at q2 q4
    exact R.dist j k b es fs q1 q2 q3 q4
theorem Rel.write {i:Nat} {a:Addr} {ys:List V} {ds es:List D} (R:Rel K mg B Bi Hi H σ ρ) (e:ρ[i]?=some (.own ds)) (ea:σ[i]?=some (some (.ref a))) (hs:IsDs K Hi ys es):
  Rel K mg B Bi Hi (upd H a (.lst ys)) σ (ρ.set i (.own es)):=by
 obtain ⟨a',xs',q,h1,h2,h3,h4⟩:=R.slot i _ e
 rw [ea] at q
 cases q
 have hl:i < ρ.length:=by
  by_cases hl:i < ρ.length
  ·exact hl
  ·rw [List.getElem?_eq_none (by omega)] at e;cases e
 refine ⟨by rw [List.length_set];exact R.len,⟨R.ext.i,⟨fun b o z=>?_,fun P z=>(R.ext.h.t P z).put (fun ps y=>by rw [h1] at y;cases y) (fun ob u y=>by rw [h1] at y;cases y)⟩,fun b o z=>?_,R.ext.n⟩,fun j s z=>?_,fun j k b fs gs q1 q2 q3 q4=>?_⟩
 ·rw [bA (aY z h3)];exact R.ext.h.k _ _ z
 ·rw [bA (aY z h2)];exact R.ext.s _ _ z
 ·by_cases w:i=j
  ·subst w
   rw [List.getElem?_set_self hl] at z;cases z
   exact ⟨a,ys,ea,aW,h2,h3,hs⟩
  ·rw [List.getElem?_set_ne w] at z
   have S:=R.slot j s z
   cases s with
   | un=>trivial
   | val d=>exact S
   | own fs=>
    obtain ⟨b,zs,p,g1,g2,g3,g4⟩:=S
    have hb:b≠a:=fun c=>w (R.dist i j a ds fs e z ea (by rw [p,c]))
    exact ⟨b,zs,p,by rw [bA hb];exact g1,g2,g3,g4⟩
   | exc c=>
    obtain ⟨b,C,p,g1,g2,g3,g4⟩:=S
    have hb:b≠a:=zLR g1 h1 (by intro z;cases z)
    exact ⟨b,C,p,by rw [bA hb];exact g1,g2,g3,g4⟩
   | tab T=>exact S
 ·have own:∀ {j:Nat} {fs:List D},(ρ.set i (.own es))[j]?=some (.own fs)->∃ gs,ρ[j]?=some (.own gs):=fun {j fs} p=>by
   by_cases w:i=j
   ·subst w;exact ⟨ds,e⟩
   ·rw [List.getElem?_set_ne w] at p;exact ⟨fs,p⟩
  obtain ⟨fs',q1'⟩:=own q1
  obtain ⟨gs',q2'⟩:=own q2
  exact R.dist j k b fs' gs' q1' q2' q3 q4
end
end L3
namespace L3
open PySem PySem.Spec PyProof.Rows L2
section
variable {K:PySem.W.Frag} {mg:Str->Option Value} {B Bi Hi H Hi' H':Hp} {σ:St} {ρ:Rho}
theorem Rel.frz (R:Rel K mg B Bi Hi H σ ρ):∃ Hf,Same Hi Hf/\Rel K mg B Bi Hf H σ (ρ.map Sl.frz)/\∀ b,Hi b=none->Hf b≠none->∃ xs,Hf b=some (.lst xs):=by
 let own:Addr->Prop:=fun b=>∃ (i:Nat) (ds:List D),ρ[i]?=some (.own ds)/\σ[i]?=some (some (.ref b))
 have dec:∀ b,Decidable (own b):=fun b=>Classical.propDecidable _
 let Hf:Hp:=fun b=>match Hi b with
  | some o=>some o
  | none=>if own b then H b else none
 have hf1:∀ b o,Hi b=some o->Hf b=some o:=fun b o e=>by show (match Hi b with | some o=>some o | none=>if own b then H b else none)=_;rw [e]
 have hf2:∀ b,Hi b=none->own b->Hf b=H b:=fun b e z=>by show (match Hi b with | some o=>some o | none=>if own b then H b else none)=_;rw [e];exact if_pos z
 have hf3:∀ b,Hi b=none->¬ own b->Hf b=none:=fun b e z=>by show (match Hi b with | some o=>some o | none=>if own b then H b else none)=_;rw [e];exact if_neg z
 have lst:∀ b,own b->∃ xs,H b=some (.lst xs)/\Hi b=none/\B b=none:=fun b ⟨i,ds,e1,e2⟩=>by
  obtain ⟨a,xs,q,h1,h2,h3,h4⟩:=R.slot i _ e1
  rw [e2] at q;cases q
  exact ⟨xs,h1,h2,h3⟩
 have ss:Same Hf H:=fun b o z=>by
  cases q:Hi b with
  | some u=>rw [hf1 b u q] at z;cases z;exact R.s _ _ q
  | none=>
   by_cases w:own b
   ·rw [hf2 b q w] at z;exact z
   ·rw [hf3 b q w] at z;cases z
 refine ⟨Hf,hf1,⟨by rw [List.length_map];exact R.len,⟨R.ext.i.trans hf1,R.ext.h,ss,fun b z w=>?_⟩,fun j s z=>?_,fun j k b fs gs q1 q2 q3 q4=>?_⟩,fun b z w=>?_⟩
 ·cases q:Hi b with
  | some u=>exact R.ext.n b z (by rw [q];exact fun c=>by cases c)
  | none=>
   by_cases c:own b
   ·exact (lst b c).choose_spec.2.2
   ·exact absurd (hf3 b q c) w
 ·rw [List.getElem?_map] at z
  cases e:ρ[j]? with
  | none=>rw [e] at z;cases z
  | some t=>
   rw [e] at z
   cases z
   have S:=R.slot j t e
   cases t with
   | un=>trivial
   | val d=>obtain ⟨v,p,r⟩:=S;exact ⟨v,p,r.mono hf1⟩
   | own ds=>
    obtain ⟨a,xs,q,h1,h2,h3,h4⟩:=S
    exact ⟨.ref a,q,.lst (SqL.of (by rw [hf2 a h2 ⟨j,ds,e,q⟩];exact h1)) (h4.mono hf1)⟩
   | exc c=>
    obtain ⟨a,C,q,h1,h2,h3,h4⟩:=S
    refine ⟨a,C,q,h1,?_,h3,h4⟩
    refine hf3 a h2 fun c=>?_
    obtain ⟨xs,g,_⟩:=lst a c
    rw [h1] at g;cases g
   | tab T=>obtain ⟨a,q,h1⟩:=S;exact ⟨a,q,hf1 _ _ h1⟩
 ·exfalso
  rw [List.getElem?_map] at q1
  cases e:ρ[j]? with
  | none=>rw [e] at q1;cases q1
  | some t=>rw [e] at q1;cases t<;>cases q1
 ·by_cases c:own b
  ·obtain ⟨xs,g,_⟩:=lst b c
   exact ⟨xs,by rw [hf2 b z c];exact g⟩
  ·exact absurd (hf3 b z c) w
theorem Ext.thaw {Hf:Hp} (s:Same Hi Hf) (fl:∀ b,Hi b=none->Hf b≠none->∃ xs,Hf b=some (.lst xs)) (hs:Same Hf H) (e:Ext Hf H Hi' H'):
  ∃ Ht,Ext Hi H Ht H'/\(∀ b xs,Rd Hi' b (.tup xs)->Rd Ht b (.tup xs))/\Same Ht Hi'/\∀ b,Ht b=none->Hi' b=none∨∃ xs,H b=some (.lst xs):=by
 have dec:∀ b,Decidable (Hi b=none/\Hf b≠none):=fun b=>Classical.propDecidable _
 let Ht:Hp:=fun b=>if Hi b=none/\Hf b≠none then none else Hi' b
 have t1:∀ b,¬ (Hi b=none/\Hf b≠none)->Ht b=Hi' b:=fun b z=>if_neg z
 have t2:∀ b,(Hi b=none/\Hf b≠none)->Ht b=none:=fun b z=>if_pos z
 have tt:Same Ht Hi':=fun b o z=>by
  by_cases w:Hi b=none/\Hf b≠none
  ·rw [t2 b w] at z;cases z
  ·rw [t1 b w] at z;exact z
 refine ⟨Ht,⟨fun b o z=>?_,e.h,tt.trans e.s,fun b z w=>?_⟩,fun b xs r=>?_,tt,fun b z=>?_⟩
 ·rw [t1 b (fun w=>by rw [z] at w;cases w.1)];exact e.i _ _ (s _ _ z)
 ·by_cases c:Hi b=none/\Hf b≠none
  ·exact absurd (t2 b c) w
  ·rw [t1 b c] at w
   have:Hf b=none:=by
    cases q:Hf b with
    | none=>rfl
    | some u=>exact absurd ⟨z,by rw [q];exact fun c=>by cases c⟩ c
   exact e.n b this w
 ·have nl:¬ (Hi b=none/\Hf b≠none):=fun w=>by
   obtain ⟨ys,g⟩:=fl b w.1 w.2
   have g':=e.i _ _ g
   rcases r with r | ⟨o,r⟩<;>(rw [g'] at r;cases r)
  rcases r with r | ⟨o,r⟩
  ·exact .inl (by rw [t1 b nl];exact r)
  ·exact .inr ⟨o,by rw [t1 b nl];exact r⟩
 ·by_cases c:Hi b=none/\Hf b≠none
  ·obtain ⟨ys,g⟩:=fl b c.1 c.2
   exact .inr ⟨ys,hs _ _ g⟩
  ·exact .inl (by rw [t1 b c] at z;exact z)
end
structure Gx where
 B:Hp
 Bi:Hp
 E:Str->Hp->Prop
abbrev jF (X:Cx) (G:Gx) (Hi H:Hp) (σ:St) (ρ:Rho):Prop:=Rel X.K X.mg G.B G.Bi Hi H σ ρ
def Out (G:Gx) (Hi H:Hp) {α:Type} (r:Res α) (k:α->Hp->Hp->Prop):Prop:=match r with
 | .ok a=>∀ Hi' H',Ext Hi H Hi' H'->k a Hi' H'
 | .err c=>∀ Hi' H',Ext Hi H Hi' H'->G.E c H'
 | .no=>False
theorem Out.bind {G:Gx} {Hi H:Hp} {α β:Type} {r:Res α} {f:α->Res β} {k:β->Hp->Hp->Prop} (h:Out G Hi H (r.bind f) k):
  Out G Hi H r fun a Hi' H'=>Out G Hi' H' (f a) k:=by
 cases r with
 | no=>exact h
 | err c=>exact h
 | ok a=>
  intro Hi1 H1 e
  have h':Out G Hi H (f a) k:=h
  show Out G Hi1 H1 (f a) k
  cases q:f a with
  | no=>rw [q] at h';exact h'
  | err c=>rw [q] at h';exact fun Hi2 H2 e2=>h' _ _ (e.trans e2)
  | ok b=>rw [q] at h';exact fun Hi2 H2 e2=>h' _ _ (e.trans e2)
theorem Out.imp {G:Gx} {Hi H:Hp} {α:Type} {r:Res α} {k k':α->Hp->Hp->Prop} (h:Out G Hi H r k) (f:∀ a Hi' H',Ext Hi H Hi' H'->k a Hi' H'->k' a Hi' H'):Out G Hi H r k':=by
 cases r with
 | no=>exact h
 | err c=>exact h
 | ok a=>exact fun Hi1 H1 e=>f a Hi1 H1 e (h Hi1 H1 e)
theorem Out.here {G:Gx} {Hi H:Hp} {α:Type} {a:α} {k:α->Hp->Hp->Prop} (h:Out G Hi H (.ok a) k) (s:Same Hi H):k a Hi H:=h Hi H (Ext.refl s)
def tD (X:Cx) (G:Gx) (f:Ev):TE:=fun σ H Q=>∃ ρ Hi,jF X G Hi H σ ρ/\Out G Hi H (f ρ) fun d Hi' H'=>∀ v,IsD X.K Hi' v d->Q v H'
def zFA (K:PySem.W.Frag) (H Hi' H':Hp) (a:Addr) (ds:List D):Prop:=H a=none/\Hi' a=none/\∃ xs,H' a=some (.lst xs)/\IsDs K Hi' xs ds
def tF (X:Cx) (G:Gx) (f:Fv):TE:=fun σ H Q=>∃ ρ Hi,jF X G Hi H σ ρ/\Out G Hi H (f ρ) fun ds Hi' H'=>∀ a,zFA X.K H Hi' H' a ds->Q (.ref a) H'
def tTb (X:Cx) (G:Gx) (f:Tv):TT:=fun σ H Q=>∃ ρ Hi,jF X G Hi H σ ρ/\Out G Hi H (f ρ) fun b _ H'=>Q b H'
def tAs (X:Cx) (G:Gx) (f:Fv):TA:=fun σ H Q=>∃ ρ Hi,jF X G Hi H σ ρ/\Out G Hi H (f ρ) fun ds Hi' H'=>∀ vs,IsDs X.K Hi' vs ds->Q vs H'
def Fin (X:Cx) (G:Gx) (Hi:Hp) (E:Ends) (r:Res Fl):Prop:=match r with
 | .ok (.nx ρ')=>∀ σ' Hi' H',Same Hi Hi'->jF X G Hi' H' σ' ρ'->E.nx σ' H'
 | .ok (.brk ρ')=>∀ σ' Hi' H',Same Hi Hi'->jF X G Hi' H' σ' ρ'->E.bk σ' H'
 | .ok (.ctn ρ')=>∀ σ' Hi' H',Same Hi Hi'->jF X G Hi' H' σ' ρ'->E.ct σ' H'
 | .ok (.ret (.v d))=>∀ v Hi' H',Ext G.Bi G.B Hi' H'->IsD X.K Hi' v d->E.rt v H'
 | .ok (.ret (.f ds))=>∀ a Hi' H',Ext G.Bi G.B Hi' H'->zFA X.K G.B Hi' H' a ds->E.rt (.ref a) H'
 | .err c=>∀ Hi' H',Ext G.Bi G.B Hi' H'->G.E c H'
 | .no=>False
theorem Fin.mono {X:Cx} {G:Gx} {Hi Hi':Hp} {E:Ends} {r:Res Fl} (h:Fin X G Hi E r) (s:Same Hi Hi'):Fin X G Hi' E r:=by
 cases r with
 | no=>exact h
 | err c=>exact h
 | ok f=>
  cases f with
  | nx ρ=>exact fun σ' Hi2 H2 s2=>h σ' Hi2 H2 (s.trans s2)
  | brk ρ=>exact fun σ' Hi2 H2 s2=>h σ' Hi2 H2 (s.trans s2)
  | ctn ρ=>exact fun σ' Hi2 H2 s2=>h σ' Hi2 H2 (s.trans s2)
  | ret r=>cases r<;>exact h
def tS (X:Cx) (G:Gx) (f:Sv):TS:=fun E σ H=>∃ ρ Hi,jF X G Hi H σ ρ/\Fin X G Hi E (f ρ)
@[irreducible] def PEd (X:Cx) (G:Gx) (e:Expr) (f:Ev):Prop:=PE X e (tD X G f)
unseal PEd
@[irreducible] def PEf (X:Cx) (G:Gx) (e:Expr) (f:Fv):Prop:=PE X e (tF X G f)
unseal PEf
@[irreducible] def PTd (X:Cx) (G:Gx) (e:Expr) (f:Tv):Prop:=PT X e (tTb X G f)
unseal PTd
@[irreducible] def PWd (X:Cx) (G:Gx) (e:Expr) (f:Tv):Prop:=PW X e (tTb X G f)
unseal PWd
@[irreducible] def PAd (X:Cx) (G:Gx) (es:List Expr) (f:Fv):Prop:=PA X es (tAs X G f)
unseal PAd
@[irreducible] def PSd (X:Cx) (G:Gx) (s:Stmt) (f:Sv):Prop:=PS X s (tS X G f)
unseal PSd
@[irreducible] def eV (X:Cx) (G:Gx) (s:List Stmt) (f:Sv):Prop:=PSs X s (tS X G f)
unseal eV
theorem PE.wk {X:Cx} {e:Expr} {t t':TE} (h:PE X e t) (w:∀ σ H Q,t' σ H Q->t σ H Q):PE X e t':=fun pins s σ H Q I q=>h pins s σ H Q I (w σ H Q q)
theorem PT.wk {X:Cx} {e:Expr} {t t':TT} (h:PT X e t) (w:∀ σ H Q,t' σ H Q->t σ H Q):PT X e t':=fun pins s σ H Q I q=>h pins s σ H Q I (w σ H Q q)
theorem PW.wk {X:Cx} {e:Expr} {t t':TT} (h:PW X e t) (w:∀ σ H Q,t' σ H Q->t σ H Q):PW X e t':=fun wh pins s σ H Q I q=>h wh pins s σ H Q I (w σ H Q q)
theorem PA.wk {X:Cx} {es:List Expr} {t t':TA} (h:PA X es t) (w:∀ σ H Q,t' σ H Q->t σ H Q):PA X es t':=fun pos pins s σ H Q I q=>h pos pins s σ H Q I (w σ H Q q)
theorem PS.wk {X:Cx} {s:Stmt} {t t':TS} (h:PS X s t) (w:∀ E σ H,t' E σ H->t E σ H):PS X s t':=fun pins s σ H E I q=>h pins s σ H E I (w E σ H q)
theorem PSs.wk {X:Cx} {s:List Stmt} {t t':TS} (h:PSs X s t) (w:∀ E σ H,t' E σ H->t E σ H):PSs X s t':=fun pins s σ H E I q=>h pins s σ H E I (w E σ H q)
section
variable {X:Cx} {G:Gx} {a b e:Expr} {es:List Expr} {pos:Pos} {f g:Ev}
theorem aB (i:Nat) (h:PE X e (zCK i)):PEd X G e (aK i):=PE.wk h fun σ H Q q=>by
 obtain ⟨ρ,Hi,R,o⟩:=q
 unfold aK at o
 cases z:ρ[i]? with
 | none=>rw [z] at o;exact o.elim
 | some s=>
  rw [z] at o
  cases s with
  | val d=>
   obtain ⟨v,p,r⟩:=R.slot i _ z
   exact ⟨v,p,o.here R.s v r⟩
  | un=>exact o.elim
  | own ds=>exact o.elim
  | exc c=>exact o.elim
  | tab T=>exact o.elim
theorem aV {v:V} {d:D} (h:PE X e (tC v)) (r:∀ H,IsD X.K H v d):PEd X G e (eC d):=PE.wk h fun σ H Q q=>by
 obtain ⟨ρ,Hi,R,o⟩:=q
 exact o.here R.s v (r Hi)
theorem zAP {Hi H:Hp} {σ:St} {ρ:Rho} {β:Type} {k:D->Res β} {k':β->Hp->Hp->Prop} {Q:VK} (R:jF X G Hi H σ ρ) (o:Out G Hi H ((f ρ).bind k) k')
  (w:∀ v d Hi' H',Ext Hi H Hi' H'->jF X G Hi' H' σ ρ->IsD X.K Hi' v d->Out G Hi' H' (k d) k'->Q v H'):tD X G f σ H Q:=
 ⟨ρ,Hi,R,o.bind.imp fun d Hi' H' e q v r=>w v d Hi' H' e (R.grow e) r q⟩
def OpK (X:Cx) (r:R2) (o:Op2):Prop:=(∀ a b c,o a b≠.err c)/\∀ (Hi H:Hp) (x y:V) (a b d:D) (Q:VK),Same Hi H->IsD X.K Hi x a->IsD X.K Hi y b->o a b=.ok d->
 (∀ v Hi' H',Ext Hi H Hi' H'->IsD X.K Hi' v d->Q v H')->r x y H Q
theorem op2 {r:R2} {o:Op2} (k:OpK X r o):∀ σ H Q,tD X G (eOp o f g) σ H Q->tOp r (tD X G f) (tD X G g) σ H Q:=fun σ H Q q=>by
 obtain ⟨ρ,Hi,R,ou⟩:=q
 refine zAP R ou fun v d Hi1 H1 e1 R1 r1 o1=>?_
 refine zAP R1 o1 fun w d' Hi2 H2 e2 R2 r2 o2=>?_
 cases z:o d d' with
 | no=>rw [z] at o2;exact o2.elim
 | err c=>exact absurd z (k.1 d d' c)
 | ok u=>
  rw [z] at o2
  exact k.2 Hi2 H2 v w d d' u Q R2.s (r1.mono e2.i) r2 z fun x Hi3 H3 e3 r3=>o2 Hi3 H3 e3 x r3
theorem bM {op:Operator} {r:R2} {o:Op2} (ho:OpR X (binaryOp op) r) (k:OpK X r o) (ha:PEd X G a f) (hb:PEd X G b g):PEd X G (.BinOp a op b pos) (eOp o f g):=PE.wk (zDP ho ha hb) (op2 k)
theorem nA {op:CmpOp} {r:R2} {o:Op2} (ho:OpR X (compareOp op) r) (k:OpK X r o) (ha:PEd X G a f) (hb:PEd X G b g) (hm:behindInMarks op b=false):PEd X G (.Compare a [op] [b] pos) (eOp o f g):=PE.wk (zIV ho ha hb hm) (op2 k)
theorem aO {r:R2} {o:Op2} (ho:IxR X r) (k:OpK X r o) (ha:PEd X G a f) (hb:PEd X G b g) (hs:zAw b):PEd X G (.Subscript a b pos) (eOp o f g):=PE.wk (zCy ho ha hb hs) (op2 k)
theorem tst {op:CmpOp} {r:R2} {o:Op2} (ho:OpR X (compareOp op) r) (k:OpK X r o) (ha:PEd X G a f) (hb:PEd X G b g) (hm:behindInMarks op b=false):PTd X G (.Compare a [op] [b] pos) (dR (eOp o f g)):=
 PT.wk (zCZ ho ha hb hm) fun σ H Q q=>by
  obtain ⟨ρ,Hi,R,ou⟩:=q
  refine op2 k σ H _ ⟨ρ,Hi,R,ou.bind.imp fun d Hi' H' e o v r=>?_⟩
  cases d with
  | bl c=>rw [r.blI];exact ⟨c,rfl,o.here e.s⟩
  | _=>exact o.elim
theorem vE (h:PEd X G a f) (he:∀ whole,isTrue a X.env whole=(do let v <-whole;standAt a.pos;holding [v] (truthy v)):=by intro _;rfl):PTd X G a (dR f):=PT.wk (zJI h he) fun σ H Q q=>by
 obtain ⟨ρ,Hi,R,ou⟩:=q
 refine ⟨ρ,Hi,R,ou.bind.imp fun d Hi' H' e o v r=>?_⟩
 cases d with
 | bl c=>rw [r.blI];exact ⟨c,rfl,o.here e.s⟩
 | _=>exact o.elim
variable {t u:Tv}
theorem zLF {Hi H:Hp} {σ:St} {ρ:Rho} {β:Type} {k:Bool->Res β} {k':β->Hp->Hp->Prop} {Q:Bool->Hp->Prop} (R:jF X G Hi H σ ρ) (o:Out G Hi H ((t ρ).bind k) k')
  (w:∀ c Hi' H',Ext Hi H Hi' H'->jF X G Hi' H' σ ρ->Out G Hi' H' (k c) k'->Q c H'):tTb X G t σ H Q:=
 ⟨ρ,Hi,R,o.bind.imp fun d Hi' H' e q=>w d Hi' H' e (R.grow e) q⟩
theorem zCI (h:PTd X G a t):PTd X G (.UnaryOp .Not a pos) (lI t):=PT.wk (zJH h) fun σ H Q q=>by
 obtain ⟨ρ,Hi,R,ou⟩:=q
 exact zLF R ou fun c Hi1 H1 e1 R1 o1=>o1.here R1.s
theorem zGT (h:PTd X G a t):PWd X G (.BoolOp .And [a] pos) t:=zJc h
theorem qJ (h:PTd X G a t):PWd X G (.BoolOp .Or [a] pos) t:=zKf h
theorem zLh {rest:List Expr} (ha:PTd X G a t) (hb:PWd X G (.BoolOp .And (b::rest) pos) u):PWd X G (.BoolOp .And (a::b::rest) pos) (zDY t u):=PW.wk (zLr ha hb) fun σ H Q q=>by
 obtain ⟨ρ,Hi,R,ou⟩:=q
 refine zLF R ou fun c Hi1 H1 e1 R1 o1=>?_
 cases c with
 | true=>exact ⟨ρ,Hi1,R1,o1⟩
 | false=>exact o1.here R1.s
theorem zCS {rest:List Expr} (ha:PTd X G a t) (hb:PWd X G (.BoolOp .Or (b::rest) pos) u):PWd X G (.BoolOp .Or (a::b::rest) pos) (zAU t u):=PW.wk (zMm ha hb) fun σ H Q q=>by
 obtain ⟨ρ,Hi,R,ou⟩:=q
 refine zLF R ou fun c Hi1 H1 e1 R1 o1=>?_
 cases c with
 | true=>exact o1.here R1.s
 | false=>exact ⟨ρ,Hi1,R1,o1⟩
theorem PWd.pt {e:Expr} (h:PWd X G e t):PTd X G e t:=PW.pt h
theorem zGu {op} (h:PEd X G a f):PEd X G (.BoolOp op [a] pos) f:=zKM h
theorem zGG {rest:List Expr} (ha:PEd X G a f) (hb:PEd X G (.BoolOp .And (b::rest) pos) g):PEd X G (.BoolOp .And (a::b::rest) pos) (zKQ f g):=PE.wk (zJx ha hb) fun σ H Q q=>by
 obtain ⟨ρ,Hi,R,ou⟩:=q
 refine zAP R ou fun v d Hi1 H1 e1 R1 r1 o1=>?_
 cases d with
 | bl c=>
  refine ⟨c,r1.blI,?_⟩
  cases c with
  | true=>exact ⟨ρ,Hi1,R1,o1⟩
  | false=>exact o1.here R1.s _ (.bl false)
 | _=>exact o1.elim
theorem uK (ha:PEd X G a f):PEd X G (.UnaryOp .USub a pos) (eUn zGO f):=PE.wk (zMt zLo ha) fun σ H Q q=>by
 obtain ⟨ρ,Hi,R,ou⟩:=q
 refine zAP R ou fun v d Hi1 H1 e1 R1 r1 o1=>?_
 cases d with
 | int c=>exact ⟨c,r1.intI,o1.here R1.s _ (.int _)⟩
 | _=>exact o1.elim
theorem zJZ {c:Expr} (hc:PTd X G c t) (ha:PEd X G a f) (hb:PEd X G b g):PEd X G (.IfExp c a b pos) (eIf t f g):=PE.wk (zGa hc ha hb) fun σ H Q q=>by
 obtain ⟨ρ,Hi,R,ou⟩:=q
 refine zLF R ou fun c Hi1 H1 e1 R1 o1=>?_
 cases c with
 | true=>exact ⟨ρ,Hi1,R1,o1⟩
 | false=>exact ⟨ρ,Hi1,R1,o1⟩
variable {fs:Fv}
theorem aF:PAd X G [] aNil:=PA.wk oM fun σ H Q q=>by
 obtain ⟨ρ,Hi,R,ou⟩:=q
 exact ou.here R.s [] .nil
theorem aA (ha:PEd X G e f) (hr:PAd X G es fs) (hs:starEach (e::es) X.env=(false,eval e X.env)::starEach es X.env:=by rfl):PAd X G (e::es) (aE f fs):=PA.wk (iX ha hr hs) fun σ H Q q=>by
 obtain ⟨ρ,Hi,R,ou⟩:=q
 refine zAP R ou fun v d Hi1 H1 e1 R1 r1 o1=>?_
 refine ⟨ρ,Hi1,R1,o1.bind.imp fun ds Hi2 H2 e2 o2 vs rs=>?_⟩
 exact o2.here e2.s _ (.cons (r1.mono e2.i) rs)
theorem zFo {Hi H:Hp} {σ:St} {ρ:Rho} {β:Type} {k:List D->Res β} {k':β->Hp->Hp->Prop} {Q:List V->Hp->Prop} (R:jF X G Hi H σ ρ) (o:Out G Hi H ((fs ρ).bind k) k')
  (w:∀ vs ds Hi' H',Ext Hi H Hi' H'->jF X G Hi' H' σ ρ->IsDs X.K Hi' vs ds->Out G Hi' H' (k ds) k'->Q vs H'):tAs X G fs σ H Q:=
 ⟨ρ,Hi,R,o.bind.imp fun d Hi' H' e q v r=>w v d Hi' H' e (R.grow e) r q⟩
theorem cO {x1} (h:PAd X G es fs):PEd X G (.Tuple es x1 pos) (lF fs):=PE.wk (zLb h) fun σ H Q q=>by
 obtain ⟨ρ,Hi,R,ou⟩:=q
 refine zFo R ou fun vs ds Hi1 H1 e1 R1 r1 o1=>?_
 by_cases hz:ds.length<=16777216
 ·rw [if_pos hz] at o1
  refine ⟨by rw [r1.length];exact hz,fun p hp=>?_⟩
  exact o1 _ _ (Ext.new R1.s hp) (.ref p) (.tup (SqT.of aW) (r1.mono (cU (R1.s.none hp) _)))
 ·rw [if_neg hz] at o1;exact o1.elim
theorem dJ (h:PAd X G es fs):PEf X G (.List es pos) (pC fs):=PE.wk (zLc h) fun σ H Q q=>by
 obtain ⟨ρ,Hi,R,ou⟩:=q
 refine zFo R ou fun vs ds Hi1 H1 e1 R1 r1 o1=>?_
 by_cases hz:ds.length<=16777216
 ·rw [if_pos hz] at o1
  refine ⟨by rw [r1.length];exact hz,fun p hp=>?_⟩
  exact o1 _ _ (Ext.newF R1.s hp) p ⟨e1.h.none hp,R1.s.none hp,vs,aW,r1⟩
 ·rw [if_neg hz] at o1;exact o1.elim
theorem PEf.d (h:PEf X G e fs):PEd X G e (eF fs):=PE.wk h fun σ H Q q=>by
 obtain ⟨ρ,Hi,R,ou⟩:=q
 refine ⟨ρ,Hi,R,?_⟩
 cases z:fs ρ with
 | no=>unfold eF at ou;rw [z] at ou;exact ou
 | err c=>unfold eF at ou;rw [z] at ou;exact ou
 | ok ds=>
  unfold eF at ou;rw [z] at ou
  intro Hi1 H1 e1 a n
  obtain ⟨n1,n2,xs,n3,n4⟩:=n
  have ou':∀ Hi' H',Ext Hi H Hi' H'->∀ v,IsD X.K Hi' v (.lst ds)->Q v H':=ou
  exact ou' _ _ (e1.hold n1 n3 n2) (.ref a) (.lst (SqL.of aW) (n4.mono (cU n2 _)))
theorem PEd.frz (h:PEd X G e f):PEd X G e (zLB f):=PE.wk h fun σ H Q q=>by
 obtain ⟨ρ,Hi,R,ou⟩:=q
 obtain ⟨Hf,s1,R1,fl⟩:=R.frz
 refine ⟨ρ.map Sl.frz,Hf,R1,?_⟩
 unfold zLB at ou
 cases z:f (ρ.map Sl.frz) with
 | no=>rw [z] at ou;exact ou
 | err c=>
  rw [z] at ou
  intro Hi1 H1 e1
  have ou':∀ Hi' H',Ext Hi H Hi' H'->G.E c H':=ou
  obtain ⟨Ht,e2,k,s2,n⟩:=Ext.thaw s1 fl R1.s e1
  exact ou' Ht H1 e2
 | ok d=>
  rw [z] at ou
  by_cases hz:noL d=true
  ·have ou':Out G Hi H (if noL d=true then Res.ok d else .no) _:=ou
   rw [if_pos hz] at ou'
   intro Hi1 H1 e1 v r
   obtain ⟨Ht,e2,k,s2,n⟩:=Ext.thaw s1 fl R1.s e1
   exact ou' Ht H1 e2 v (r.noL k hz)
  ·have ou':Out G Hi H (if noL d=true then Res.ok d else .no) _:=ou
   rw [if_neg hz] at ou';exact ou'.elim
end
end L3
namespace L3
open PySem PySem.Spec PyProof.Rows L2
unseal PEd PEf PTd PWd PAd PSd eV
section
variable {X:Cx} {G:Gx} {a b e:Expr} {es:List Expr} {pos:Pos} {f g:Ev} {fs:Fv} {t u:Tv}
theorem OpR.or {o:Value->Value->Sem Value} {r r':R2} (h:OpR X o r) (h':OpR X o r'):OpR X o (fun x y H Q=>r x y H Q∨r' x y H Q):=by
 intro pins s σ H x y v u Q I rx ry q
 rcases q with q | q
 ·exact h pins s σ H x y v u Q I rx ry q
 ·exact h' pins s σ H x y v u Q I rx ry q
theorem zJS {o:Op2} {h:Int->Int->Int} (hi:∀ i j,o (.int i) (.int j)=.ok (.int (h i j))) (hn:∀ a b d,o a b=.ok d->∃ i j,a=.int i/\b=.int j) (he:∀ a b c,o a b≠.err c):OpK X (rI0 fun i j=>.int (h i j)) o:=
 ⟨he,fun Hi H x y a b d Q s r1 r2 z q=>by
  obtain ⟨i,j,rfl,rfl⟩:=hn a b d z
  rw [hi] at z;cases z
  exact ⟨i,j,r1.intI,r2.intI,q _ Hi H (Ext.refl s) (.int _)⟩⟩
theorem zHn {o:Op2} {h:Int->Int->Bool} (hi:∀ i j,o (.int i) (.int j)=.ok (.bl (h i j))) (hn:∀ a b d,o a b=.ok d->∃ i j,a=.int i/\b=.int j) (he:∀ a b c,o a b≠.err c):OpK X (rI0 fun i j=>.bl (h i j)) o:=
 ⟨he,fun Hi H x y a b d Q s r1 r2 z q=>by
  obtain ⟨i,j,rfl,rfl⟩:=hn a b d z
  rw [hi] at z;cases z
  exact ⟨i,j,r1.intI,r2.intI,q _ Hi H (Ext.refl s) (.bl _)⟩⟩
theorem xN:OpK X (rI0 fun i j=>.int (i - j)) wZ:=zJS (fun _ _=>rfl) (fun a b d z=>by unfold wZ at z;split at z<;>first | exact ⟨_,_,rfl,rfl⟩ | cases z) (fun a b c z=>by unfold wZ at z;split at z<;>cases z)
theorem zGe:OpK X (rI0 fun i j=>.bl (decide (i < j))) oLt:=zHn (fun _ _=>rfl) (fun a b d z=>by unfold oLt at z;split at z<;>first | exact ⟨_,_,rfl,rfl⟩ | cases z) (fun a b c z=>by unfold oLt at z;split at z<;>cases z)
theorem zLC:OpK X (rI0 fun i j=>.bl (decide (j < i))) oGt:=zHn (fun _ _=>rfl) (fun a b d z=>by unfold oGt at z;split at z<;>first | exact ⟨_,_,rfl,rfl⟩ | cases z) (fun a b c z=>by unfold oGt at z;split at z<;>cases z)
theorem zGi {o:Op2} {C:Int->Int->Prop} {h:Int->Int->Int} (hn:∀ a b d,o a b=.ok d->∃ i j,a=.int i/\b=.int j/\C i j/\d=.int (h i j)) (he:∀ a b c,o a b≠.err c):OpK X (rI C fun i j=>.int (h i j)) o:=
 ⟨he,fun Hi H x y a b d Q s r1 r2 z q=>by
  obtain ⟨i,j,rfl,rfl,hc,rfl⟩:=hn a b d z
  exact ⟨i,j,r1.intI,r2.intI,hc,q _ Hi H (Ext.refl s) (.int _)⟩⟩
def zLw (i j:Int):Prop:=hJ i j=true
theorem cE:OpR X (binaryOp .Mult) (rI zLw fun i j=>.int (i * j)):=opI fun i j _ _ _ _ _ hc q=>by
 have hc':hJ i j=true:=hc
 unfold hJ at hc'
 simp only [Bool.or_eq_true,Bool.and_eq_true,decide_eq_true_eq] at hc'
 rcases hc' with (⟨h1,h2⟩ | ⟨h1,h2⟩) | h
 ·exact mul_int q (zLz.ok (.inl ⟨h1,h2⟩))
 ·exact mul_int q (zLz.ok (.inr ⟨h1,h2⟩))
 ·exact mul_int q (PySem.IntMulOk.of_le (PySem.intBits_le_iff.mpr (zHB i)) (PySem.intBits_le_iff.mpr (zHB j)) h)
def zLm (_ j:Int):Prop:=jP j=true
theorem jT:OpR X (binaryOp .FloorDiv) (rI zLm fun i j=>.int (i.fdiv j)):=opI fun i j _ _ _ _ _ hc q=>by
 have hc':jP j=true:=hc
 unfold jP at hc'
 simp only [Bool.and_eq_true,decide_eq_true_eq] at hc'
 refine floordiv_int hc'.1 q (.inl (PyProof.noPylong_of_log2 ?_))
 have h2:=hc'.2
 unfold nb at h2
 omega
def zKK (i j:Int):Prop:=rR i j=true
theorem zDI:OpR X (binaryOp .Pow) (rI zKK fun i j=>.int (i^j.toNat)):=opI fun i j _ _ _ _ _ hc q=>by
 have hc':rR i j=true:=hc
 unfold rR at hc'
 simp only [Bool.and_eq_true,decide_eq_true_eq] at hc'
 refine pow_int hc'.1 (Int.le_trans (Int.mul_le_mul_of_nonneg_right ?_ hc'.1) hc'.2) q
 have:=PySem.intBits_le_iff.mpr (zHB i)
 omega
theorem hG:OpK X (rI zLw fun i j=>.int (i * j)) pD:=zGi (fun a b d z=>by
 unfold pD at z
 split at z
 case h_2=>cases z
 rename_i i j
 have z':(if hJ i j=true then Res.ok (D.int (i * j)) else .no)=.ok d:=z
 by_cases h:hJ i j=true
 ·rw [if_pos h] at z';cases z';exact ⟨i,j,rfl,rfl,h,rfl⟩
 ·rw [if_neg h] at z';cases z') (fun a b c z=>by
 unfold pD at z
 split at z
 case h_2=>cases z
 rename_i i j
 have z':(if hJ i j=true then Res.ok (D.int (i * j)) else .no)=.err c:=z
 by_cases h:hJ i j=true
 ·rw [if_pos h] at z';cases z'
 ·rw [if_neg h] at z';cases z')
theorem zAh:OpK X (rI zLm fun i j=>.int (i.fdiv j)) zDz:=zGi (fun a b d z=>by
 unfold zDz at z
 split at z
 case h_2=>cases z
 rename_i i j
 have z':(if jP j=true then Res.ok (D.int (i.fdiv j)) else .no)=.ok d:=z
 by_cases h:jP j=true
 ·rw [if_pos h] at z';cases z';exact ⟨i,j,rfl,rfl,h,rfl⟩
 ·rw [if_neg h] at z';cases z') (fun a b c z=>by
 unfold zDz at z
 split at z
 case h_2=>cases z
 rename_i i j
 have z':(if jP j=true then Res.ok (D.int (i.fdiv j)) else .no)=.err c:=z
 by_cases h:jP j=true
 ·rw [if_pos h] at z';cases z'
 ·rw [if_neg h] at z';cases z')
theorem wI:OpK X (rI (fun _ j=>j≠0) fun i j=>.int (i.fmod j)) zCC:=zGi (fun a b d z=>by
 unfold zCC at z
 split at z
 case h_2=>cases z
 rename_i i j
 have z':(if j≠0 then Res.ok (D.int (i.fmod j)) else .no)=.ok d:=z
 by_cases h:j≠0
 ·rw [if_pos h] at z';cases z';exact ⟨i,j,rfl,rfl,h,rfl⟩
 ·rw [if_neg h] at z';cases z') (fun a b c z=>by
 unfold zCC at z
 split at z
 case h_2=>cases z
 rename_i i j
 have z':(if j≠0 then Res.ok (D.int (i.fmod j)) else .no)=.err c:=z
 by_cases h:j≠0
 ·rw [if_pos h] at z';cases z'
 ·rw [if_neg h] at z';cases z')
theorem zKi:OpK X (rI zKK fun i j=>.int (i^j.toNat)) zJn:=zGi (fun a b d z=>by
 unfold zJn at z
 split at z
 case h_2=>cases z
 rename_i i j
 have z':(if rR i j=true then Res.ok (D.int (i^j.toNat)) else .no)=.ok d:=z
 by_cases h:rR i j=true
 ·rw [if_pos h] at z';cases z';exact ⟨i,j,rfl,rfl,h,rfl⟩
 ·rw [if_neg h] at z';cases z') (fun a b c z=>by
 unfold zJn at z
 split at z
 case h_2=>cases z
 rename_i i j
 have z':(if rR i j=true then Res.ok (D.int (i^j.toNat)) else .no)=.err c:=z
 by_cases h:rR i j=true
 ·rw [if_pos h] at z';cases z'
 ·rw [if_neg h] at z';cases z')
def zKk (K:PySem.W.Frag):R2:=fun x y H Q=>∃ a b ys,x=.ref a/\y=.ref b/\SqT K H a []/\SqT K H b ys/\Q (.ref b) H
theorem zIx:OpR X (binaryOp .Add) (zKk X.K):=by
 intro pins s σ H x y v u Q I rx ry h
 obtain ⟨a,b,ys,rfl,rfl,ha,hb,q⟩:=h
 cases rx
 cases ry
 obtain ⟨its,r1,p1,_⟩:=I.tuple ha
 obtain ⟨its2,r2,p2,_⟩:=I.tuple hb
 cases r1
 obtain ⟨⟨c1,d1,t1,s1⟩,ho1,hc1,n1,hd1⟩:=id p1
 obtain ⟨⟨c2,d2,t2,s2⟩,ho2,hc2,n2,hd2⟩:=id p2
 simp only at hc1 hd1 hc2 hd2
 subst hc1 hd1 hc2 hd2
 exact concat_meets ⟨_,ho1,rfl⟩ ⟨_,ho2,rfl⟩ noFill_tuple_add seq_tuple_add PySem.F.slot_tuple_add PySem.F.entry_tuple_add (PySem.F.args_tuple_add_2 _ _) (tuple_addW0 a b #[] its2.toArray n1 n2 d1 d2 s1 s2 rfl) ⟨ho1,ho2,⟨.ref b,H,I,rfl,q⟩⟩
def zKa (K:PySem.W.Frag):R2:=fun x y H Q=>rI0 (fun i j=>.int (i+j)) x y H Q∨(zKu K x y H Q∨zKk K x y H Q)
theorem lE:OpR X (binaryOp .Add) (zKa X.K):=OpR.or zKA (OpR.or zIG zIx)
theorem zBb:OpK X (zKa X.K) zDu:=⟨fun a b c z=>(by
  unfold zDu at z
  split at z
  case h_1=>cases z
  case h_3=>cases z
  rename_i as bs
  have z':(if as.length+bs.length<=16777216 then Res.ok (D.tup (as++bs)) else .no)=.err c:=z
  split at z'<;>cases z'),fun Hi H x y a b d Q s r1 r2 z q=>by
  unfold zDu at z
  split at z
  case h_3=>cases z
  ·cases z
   exact .inl ⟨_,_,r1.intI,r2.intI,q _ Hi H (Ext.refl s) (.int _)⟩
  ·rename_i as bs
   have z':(if as.length+bs.length<=16777216 then Res.ok (D.tup (as++bs)) else .no)=.ok d:=z
   split at z'
   ·rename_i hz
    cases z'
    obtain ⟨p,xs,rfl,h1,i1⟩:=r1.tupI
    obtain ⟨p',ys,rfl,h2,i2⟩:=r2.tupI
    by_cases h0:as.length=0
    ·have e0:as=[]:=List.eq_nil_of_length_eq_zero h0
     subst e0
     cases i1
     exact .inr (.inr ⟨p,p',ys,rfl,rfl,cD s h1,cD s h2,q _ Hi H (Ext.refl s) (.tup h2 i2)⟩)
    refine .inr (.inl ⟨p,p',xs,ys,rfl,rfl,cD s h1,cD s h2,fun e=>h0 (by rw [<-i1.length,e];rfl),by rw [i1.length,i2.length];exact hz,fun e=>?_,fun _ l hl=>?_⟩)
    ·subst e
     cases i2
     rw [List.append_nil] at q
     exact q _ Hi H (Ext.refl s) (.tup h1 i1)
    ·exact q _ _ _ (Ext.new s hl) (.tup (SqT.of aW) ((i1.append i2).mono (cU (s.none hl) _)))
   ·cases z'⟩
theorem zIB {α:Type} {xs:List α} {i:Int} {v:α} (h0:i < 0) (h1:0<=(xs.length:Int)+i) (h:xs[((xs.length:Int)+i).toNat]?=some v):atI xs i=some v:=by
 have e:ixN xs.length i=some ((xs.length:Int)+i).toNat:=by
  unfold ixN
  rw [if_neg (by omega),if_pos (by omega)]
  congr 2
  omega
 unfold atI;rw [e];exact h
theorem zEv {K:PySem.W.Frag} {H:Hp} {xs:List V} {ds:List D} {i:Int} {d:D} (h:IsDs K H xs ds) (e:atD ds i=some d):∃ v,atI xs i=some v/\IsD K H v d:=by
 unfold atD at e
 by_cases h0:0<=i
 ·rw [if_pos h0] at e
  obtain ⟨v,hv,r⟩:=h.at e
  refine ⟨v,?_,r⟩
  have:=zBa hv
  rw [show ((i.toNat:Nat):Int)=i by omega] at this
  exact this
 ·rw [if_neg h0] at e
  by_cases h1:0<=(ds.length:Int)+i
  ·rw [if_pos h1] at e
   obtain ⟨v,hv,r⟩:=h.at e
   refine ⟨v,?_,r⟩
   have hl:=h.length
   have e2:((ds.length:Int)+i).toNat=((xs.length:Int)+i).toNat:=by rw [hl]
   rw [e2] at hv
   exact zIB (by omega) (by omega) hv
  ·rw [if_neg h1] at e;cases e
theorem bU:OpK X (fun x y H Q=>zLy X.K x y H Q∨zLE X.K x y H Q) oIx:=⟨fun a b c z=>(by
  unfold oIx at z
  split at z
  case h_3=>cases z
  ·rename_i ds i
   have z':ofO (atD ds i)=Res.err c:=z
   cases q:atD ds i<;>rw [q] at z'<;>cases z'
  ·rename_i ds i
   have z':ofO (atD ds i)=Res.err c:=z
   cases q:atD ds i<;>rw [q] at z'<;>cases z'),fun Hi H x y a b d Q s r1 r2 z q=>by
  unfold oIx at z
  split at z
  case h_3=>cases z
  ·rename_i ds i
   have z':ofO (atD ds i)=Res.ok d:=z
   cases w:atD ds i with
   | none=>rw [w] at z';cases z'
   | some d'=>
    rw [w] at z';cases z'
    obtain ⟨p,xs,rfl,h1,i1⟩:=r1.tupI
    obtain ⟨v,hv,r⟩:=zEv i1 w
    exact .inr ⟨p,xs,i,v,rfl,r2.intI,cD s h1,hv,q v Hi H (Ext.refl s) r⟩
  ·rename_i ds i
   have z':ofO (atD ds i)=Res.ok d:=z
   cases w:atD ds i with
   | none=>rw [w] at z';cases z'
   | some d'=>
    rw [w] at z';cases z'
    obtain ⟨p,xs,rfl,h1,i1⟩:=r1.lstI
    obtain ⟨v,hv,r⟩:=zEv i1 w
    exact .inl ⟨p,xs,i,v,rfl,r2.intI,cK s h1,hv,q v Hi H (Ext.refl s) r⟩⟩
theorem aI:IxR X (fun x y H Q=>zLy X.K x y H Q∨zLE X.K x y H Q):=zIq.or zKY
end
end L3
namespace L3
open PySem PySem.Spec PyProof.Rows L2
unseal PEd PEf PTd PWd PAd PSd eV
section
variable {X:Cx} {pins:List (Addr×Obj)} {σ:St} {H:Hp} {s:Shared}
mutual
theorem IsD.inj (I:Inv X pins σ H s):∀ {v:V} {d e:D},IsD X.K H v d->IsD X.K H v e->d=e
 | _,_,_,.non,h=>by cases h;rfl
 | _,_,_,.bl b,h=>by cases h;rfl
 | _,_,_,.int i,h=>by cases h;rfl
 | _,_,_,.str x,h=>by cases h;rfl
 | _,_,_,.tup h hs,h2=>by
  cases h2 with
  | tup h' hs'=>
   have e:=I.tuple_inj h h'
   subst e
   rw [IsDs.inj I hs hs']
  | lst h' hs'=>
   exfalso
   obtain ⟨_,_,⟨o,e,c,_⟩,_⟩:=I.tuple h
   obtain ⟨_,_,⟨o',n',e',c',_⟩,_⟩:=I.list h'
   rw [e] at e';cases e';rw [c] at c';exact absurd c' (by decide)
 | _,_,_,.lst h hs,h2=>by
  cases h2 with
  | lst h' hs'=>
   have e:=I.list_inj h h'
   subst e
   rw [IsDs.inj I hs hs']
  | tup h' hs'=>
   exfalso
   obtain ⟨_,_,⟨o,e,c,_⟩,_⟩:=I.tuple h'
   obtain ⟨_,_,⟨o',n',e',c',_⟩,_⟩:=I.list h
   rw [e] at e';cases e';rw [c] at c';exact absurd c' (by decide)
theorem IsDs.inj (I:Inv X pins σ H s):∀ {vs:List V} {ds es:List D},IsDs X.K H vs ds->IsDs X.K H vs es->ds=es
 | _,_,_,.nil,h=>by cases h;rfl
 | _,_,_,.cons h hs,h2=>by
  cases h2 with
  | cons h' hs'=>rw [IsD.inj I h h',IsDs.inj I hs hs']
end
theorem zEd {α:Type} {l:List α} {j:Nat} {x d:α} (h:l[j]?=some x):l.getD j d=x:=by
 rw [List.getD_eq_getElem?_getD,h];rfl
theorem kP {A:Around} {xs xs':List V} {ds ds':List D} {its its':List Value} (hs:IsDs X.K H xs ds) (hs':IsDs X.K H xs' ds') (rv:cM xs its) (rv':cM xs' its')
  (rc:∀ (d d':D) (v v':V) (u u':Value),d∈ds->IsD X.K H v d->IsD X.K H v' d'->cQ v u->cQ v' u'->SeqAt.EqAt A s u u' (eqD d d'))
  (j:Nat) (g1:j < its.toArray.size) (g2:j < its'.toArray.size):SeqAt.EqAt A s its.toArray[j] its'.toArray[j] (eqD (ds.getD j .non) (ds'.getD j .non)):=by
 have g1':j < its.length:=by simpa using g1
 have g2':j < its'.length:=by simpa using g2
 have l1:its.length=ds.length:=by rw [<-rv.length,hs.length]
 have l2:its'.length=ds'.length:=by rw [<-rv'.length,hs'.length]
 obtain ⟨d,hd⟩:∃ d,ds[j]?=some d:=⟨_,List.getElem?_eq_getElem (by omega)⟩
 obtain ⟨d',hd'⟩:∃ d,ds'[j]?=some d:=⟨_,List.getElem?_eq_getElem (by omega)⟩
 obtain ⟨v,hv,iv⟩:=hs.at hd
 obtain ⟨v',hv',iv'⟩:=hs'.at hd'
 obtain ⟨w1,hw,rw1⟩:=rv.get hv
 obtain ⟨w2,hw',rw2⟩:=rv'.get hv'
 have e1:its.toArray[j]=w1:=by
  rw [List.getElem?_eq_getElem g1'] at hw
  simpa using hw
 have e2:its'.toArray[j]=w2:=by
  rw [List.getElem?_eq_getElem g2'] at hw'
  simpa using hw'
 rw [e1,e2,zEd hd,zEd hd']
 exact rc d d' v v' w1 w2 (List.mem_of_getElem? hd) iv iv' rw1 rw2
theorem gD {ds ds':List D} (h:ds.length=ds'.length):((List.range ds.length).all fun j=>eqD (ds.getD j .non) (ds'.getD j .non))=zCF ds ds':=by
 rw [kO,<-h,Nat.min_self];simp
theorem uZ {ds ds':List D} (h:ds.length≠ds'.length):zCF ds ds'=false:=by
 rw [kO];simp [h]
theorem yO (I:Inv X pins σ H s) {A:Around} {v v':V} {d d':D} {u u':Value} (h1:IsD X.K H v d) (h2:IsD X.K H v' d') (r1:cQ v u) (r2:cQ v' u') (hu:A.units < cLine)
  (rc:∀ ds,(d=.tup ds∨d=.lst ds)->∀ (e e':D) (w w':V) (z z':Value),e∈ds->IsD X.K H w e->IsD X.K H w' e'->cQ w z->cQ w' z'->SeqAt.EqAt A.in1 s z z' (eqD e e')):
  SeqAt.EqAt A s u u' (eqD d d'):=by
 cases h1 with
 | non=>
  cases (show u=Value.none from r1)
  cases h2 with
  | non=>cases (show u'=Value.none from r2);exact SeqAt.EqAt.same _
  | bl b=>cases (show u'=Value.bool _ from r2);exact SeqAt.EqAt.none_bool _
  | int i=>obtain ⟨t,rfl⟩:=r2;exact SeqAt.EqAt.none_int _ _
  | str x=>obtain ⟨t,rfl⟩:=r2;exact SeqAt.EqAt.none_str _ _
  | tup h hs=>cases (show u'=Value.ref _ from r2);obtain ⟨its,rv,p,hz⟩:=I.tuple h;exact SeqAt.EqAt.none_tuple (show s.heap.IsTuple _ its.toArray from p) hu
  | lst h hs=>cases (show u'=Value.ref _ from r2);obtain ⟨its,rv,p,hz⟩:=I.list h;exact SeqAt.EqAt.none_list p.isList hu
 | bl b=>
  cases (show u=Value.bool _ from r1)
  cases h2 with
  | non=>cases (show u'=Value.none from r2);exact SeqAt.EqAt.bool_none _
  | bl b=>cases (show u'=Value.bool _ from r2);exact SeqAt.EqAt.bool_bool _ _
  | int i=>obtain ⟨t,rfl⟩:=r2;exact SeqAt.EqAt.bool_int _ _ _
  | str x=>obtain ⟨t,rfl⟩:=r2;exact SeqAt.EqAt.bool_str _ _ _
  | tup h hs=>cases (show u'=Value.ref _ from r2);obtain ⟨its,rv,p,hz⟩:=I.tuple h;exact SeqAt.EqAt.bool_tuple _ (show s.heap.IsTuple _ its.toArray from p) hu
  | lst h hs=>cases (show u'=Value.ref _ from r2);obtain ⟨its,rv,p,hz⟩:=I.list h;exact SeqAt.EqAt.bool_list _ p.isList hu
 | int i=>
  obtain ⟨t,rfl⟩:=r1
  cases h2 with
  | non=>cases (show u'=Value.none from r2);exact SeqAt.EqAt.int_none _ _
  | bl b=>cases (show u'=Value.bool _ from r2);exact SeqAt.EqAt.int_bool _ _ _
  | int i=>obtain ⟨t,rfl⟩:=r2;exact SeqAt.EqAt.int_int _ _ _ _
  | str x=>obtain ⟨t,rfl⟩:=r2;exact SeqAt.EqAt.int_str _ _ _ _
  | tup h hs=>cases (show u'=Value.ref _ from r2);obtain ⟨its,rv,p,hz⟩:=I.tuple h;exact SeqAt.EqAt.int_tuple _ _ (show s.heap.IsTuple _ its.toArray from p) hu
  | lst h hs=>cases (show u'=Value.ref _ from r2);obtain ⟨its,rv,p,hz⟩:=I.list h;exact SeqAt.EqAt.int_list _ _ p.isList hu
 | str x=>
  obtain ⟨t,rfl⟩:=r1
  cases h2 with
  | non=>cases (show u'=Value.none from r2);exact SeqAt.EqAt.str_none _ _
  | bl b=>cases (show u'=Value.bool _ from r2);exact SeqAt.EqAt.str_bool _ _ _
  | int i=>obtain ⟨t,rfl⟩:=r2;exact SeqAt.EqAt.str_int _ _ _ _
  | str x=>obtain ⟨t,rfl⟩:=r2;exact SeqAt.EqAt.str_str _ _ _ _
  | tup h hs=>cases (show u'=Value.ref _ from r2);obtain ⟨its,rv,p,hz⟩:=I.tuple h;exact SeqAt.EqAt.str_tuple _ _ (show s.heap.IsTuple _ its.toArray from p) hu
  | lst h hs=>cases (show u'=Value.ref _ from r2);obtain ⟨its,rv,p,hz⟩:=I.list h;exact SeqAt.EqAt.str_list _ _ p.isList hu
 | @tup a xs ds h hs=>
  cases (show u=Value.ref a from r1)
  obtain ⟨its,rv,p,hz⟩:=I.tuple h
  cases h2 with
  | non=>cases (show u'=Value.none from r2);exact SeqAt.EqAt.tuple_none (show s.heap.IsTuple _ its.toArray from p) hu
  | bl b=>cases (show u'=Value.bool _ from r2);exact SeqAt.EqAt.tuple_bool _ (show s.heap.IsTuple _ its.toArray from p) hu
  | int i=>obtain ⟨t,rfl⟩:=r2;exact SeqAt.EqAt.tuple_int _ _ (show s.heap.IsTuple _ its.toArray from p) hu
  | str x=>obtain ⟨t,rfl⟩:=r2;exact SeqAt.EqAt.tuple_str _ _ (show s.heap.IsTuple _ its.toArray from p) hu
  | @tup a' xs' ds' h' hs'=>
   cases (show u'=Value.ref a' from r2)
   by_cases e:a=a'
   ·subst e
    have e:=I.tuple_inj h h'
    subst e
    have e:=IsDs.inj I hs hs'
    subst e
    rw [mE]
    exact SeqAt.EqAt.same _
   ·obtain ⟨its',rv',p',hz'⟩:=I.tuple h'
    have l1:its.toArray.size=ds.length:=by rw [List.size_toArray,<-rv.length,hs.length]
    have l2:its'.toArray.size=ds'.length:=by rw [List.size_toArray,<-rv'.length,hs'.length]
    have key:=SeqAt.RcAt.tuples (A:=A) (s:=s) (show s.heap.IsTuple a its.toArray from p) (show s.heap.IsTuple a' its'.toArray from p') hu
     (kP (A:=A.in1) (s:=s) hs hs' rv rv' fun d d' v v' u u' hm iv iv' r r'=>rc ds (.inl rfl) d d' v v' u u' hm iv iv' r r')
    rw [l1,l2,<-kO] at key
    exact SeqAt.EqAt.of_refs e key
  | @lst a' xs' ds' h' hs'=>
   cases (show u'=Value.ref a' from r2)
   obtain ⟨its',rv',p',hz'⟩:=I.list h'
   exact SeqAt.EqAt.tuple_list (show s.heap.IsTuple _ its.toArray from p) p'.isList hu
 | @lst a xs ds h hs=>
  cases (show u=Value.ref a from r1)
  obtain ⟨its,rv,p,hz⟩:=I.list h
  cases h2 with
  | non=>cases (show u'=Value.none from r2);exact SeqAt.EqAt.list_none p.isList hu
  | bl b=>cases (show u'=Value.bool _ from r2);exact SeqAt.EqAt.list_bool _ p.isList hu
  | int i=>obtain ⟨t,rfl⟩:=r2;exact SeqAt.EqAt.list_int _ _ p.isList hu
  | str x=>obtain ⟨t,rfl⟩:=r2;exact SeqAt.EqAt.list_str _ _ p.isList hu
  | @tup a' xs' ds' h' hs'=>
   cases (show u'=Value.ref a' from r2)
   obtain ⟨its',rv',p',hz'⟩:=I.tuple h'
   exact SeqAt.EqAt.list_tuple p.isList (show s.heap.IsTuple _ its'.toArray from p') hu
  | @lst a' xs' ds' h' hs'=>
   cases (show u'=Value.ref a' from r2)
   by_cases e:a=a'
   ·subst e
    have e:=I.list_inj h h'
    subst e
    have e:=IsDs.inj I hs hs'
    subst e
    rw [mE]
    exact SeqAt.EqAt.same _
   ·obtain ⟨its',rv',p',hz'⟩:=I.list h'
    have l1:its.toArray.size=ds.length:=by rw [List.size_toArray,<-rv.length,hs.length]
    have l2:its'.toArray.size=ds'.length:=by rw [List.size_toArray,<-rv'.length,hs'.length]
    by_cases hl:ds.length=ds'.length
    ·have key:=SeqAt.RcAt.lists (A:=A) (s:=s) p.isList p'.isList (by rw [l1,l2,hl]) hu
      (kP (A:=A.in1) (s:=s) hs hs' rv rv' fun d d' v v' u u' hm iv iv' r r'=>rc ds (.inr rfl) d d' v v' u u' hm iv iv' r r')
     rw [l1,gD hl] at key
     exact SeqAt.EqAt.of_refs e key
    ·have key:=SeqAt.RcAt.lists_lengths (A:=A) (s:=s) p.isList p'.isList (by rw [l1,l2];simp [hl]) hu
     rw [eqD,uZ hl]
     exact SeqAt.EqAt.of_refs e key
theorem zEo (I:Inv X pins σ H s) (n:Nat):∀ {v v':V} {d d':D},dep d<=n->IsD X.K H v d->IsD X.K H v' d'->
  ∀ (A:Around) (u u':Value),A.units+n < cLine->cQ v u->cQ v' u'->SeqAt.EqAt A s u u' (eqD d d'):=by
 induction n with
 | zero=>
  intro v v' d d' hn h1 h2 A u u' hu r1 r2
  refine yO I h1 h2 r1 r2 (by omega) fun ds hd=>?_
  rcases hd with rfl | rfl<;>(rw [dep] at hn;omega)
 | succ n ih=>
  intro v v' d d' hn h1 h2 A u u' hu r1 r2
  refine yO I h1 h2 r1 r2 (by omega) fun ds hd e e' w w' z z' hm i1 i2 q1 q2=>?_
  refine ih ?_ i1 i2 A.in1 z z' (by show A.units+1+n < cLine;omega) q1 q2
  have:=rF hm
  rcases hd with rfl | rfl<;>(rw [dep] at hn;omega)
theorem zDl (I:Inv X pins σ H s) {A:Around} {v v':V} {d d':D} {u u':Value} (h1:IsD X.K H v d) (h2:IsD X.K H v' d') (r1:cQ v u) (r2:cQ v' u') (hu:A.units < cLine)
  (rc:∀ ds,(d=.tup ds∨d=.lst ds)->∀ (e e':D) (w w':V) (z z':Value),e∈ds->IsD X.K H w e->IsD X.K H w' e'->cQ w z->cQ w' z'->SeqAt.EqAt A.in1 s z z' (eqD e e')):
  SeqAt.RcAt A s u u' (eqD d d'):=by
 cases h1 with
 | non=>
  cases (show u=Value.none from r1)
  cases h2 with
  | non=>cases (show u'=Value.none from r2);exact SeqAt.RcAt.none_none
  | bl b=>cases (show u'=Value.bool _ from r2);exact SeqAt.RcAt.none_bool _
  | int i=>obtain ⟨t,rfl⟩:=r2;exact SeqAt.RcAt.none_int _ _
  | str x=>obtain ⟨t,rfl⟩:=r2;exact SeqAt.RcAt.none_str _ _
  | tup h hs=>cases (show u'=Value.ref _ from r2);obtain ⟨its,rv,p,hz⟩:=I.tuple h;exact SeqAt.RcAt.none_tuple (show s.heap.IsTuple _ its.toArray from p) hu
  | lst h hs=>cases (show u'=Value.ref _ from r2);obtain ⟨its,rv,p,hz⟩:=I.list h;exact SeqAt.RcAt.none_list p.isList hu
 | bl b=>
  cases (show u=Value.bool _ from r1)
  cases h2 with
  | non=>cases (show u'=Value.none from r2);exact SeqAt.RcAt.bool_none _
  | bl b=>cases (show u'=Value.bool _ from r2);exact SeqAt.RcAt.bool_bool _ _
  | int i=>obtain ⟨t,rfl⟩:=r2;exact SeqAt.RcAt.bool_int _ _ _
  | str x=>obtain ⟨t,rfl⟩:=r2;exact SeqAt.RcAt.bool_str _ _ _
  | tup h hs=>cases (show u'=Value.ref _ from r2);obtain ⟨its,rv,p,hz⟩:=I.tuple h;exact SeqAt.RcAt.bool_tuple _ (show s.heap.IsTuple _ its.toArray from p) hu
  | lst h hs=>cases (show u'=Value.ref _ from r2);obtain ⟨its,rv,p,hz⟩:=I.list h;exact SeqAt.RcAt.bool_list _ p.isList hu
 | int i=>
  obtain ⟨t,rfl⟩:=r1
  cases h2 with
  | non=>cases (show u'=Value.none from r2);exact SeqAt.RcAt.int_none _ _
  | bl b=>cases (show u'=Value.bool _ from r2);exact SeqAt.RcAt.int_bool _ _ _
  | int i=>obtain ⟨t,rfl⟩:=r2;exact SeqAt.RcAt.int_int _ _ _ _
  | str x=>obtain ⟨t,rfl⟩:=r2;exact SeqAt.RcAt.int_str _ _ _ _
  | tup h hs=>cases (show u'=Value.ref _ from r2);obtain ⟨its,rv,p,hz⟩:=I.tuple h;exact SeqAt.RcAt.int_tuple _ _ (show s.heap.IsTuple _ its.toArray from p) hu
  | lst h hs=>cases (show u'=Value.ref _ from r2);obtain ⟨its,rv,p,hz⟩:=I.list h;exact SeqAt.RcAt.int_list _ _ p.isList hu
 | str x=>
  obtain ⟨t,rfl⟩:=r1
  cases h2 with
  | non=>cases (show u'=Value.none from r2);exact SeqAt.RcAt.str_none _ _
  | bl b=>cases (show u'=Value.bool _ from r2);exact SeqAt.RcAt.str_bool _ _ _
  | int i=>obtain ⟨t,rfl⟩:=r2;exact SeqAt.RcAt.str_int _ _ _ _
  | str x=>obtain ⟨t,rfl⟩:=r2;exact SeqAt.RcAt.str_str _ _ _ _
  | tup h hs=>cases (show u'=Value.ref _ from r2);obtain ⟨its,rv,p,hz⟩:=I.tuple h;exact SeqAt.RcAt.str_tuple _ _ (show s.heap.IsTuple _ its.toArray from p) hu
  | lst h hs=>cases (show u'=Value.ref _ from r2);obtain ⟨its,rv,p,hz⟩:=I.list h;exact SeqAt.RcAt.str_list _ _ p.isList hu
 | @tup a xs ds h hs=>
  cases (show u=Value.ref a from r1)
  obtain ⟨its,rv,p,hz⟩:=I.tuple h
  cases h2 with
  | non=>cases (show u'=Value.none from r2);exact SeqAt.RcAt.tuple_none (show s.heap.IsTuple _ its.toArray from p) hu
  | bl b=>cases (show u'=Value.bool _ from r2);exact SeqAt.RcAt.tuple_bool _ (show s.heap.IsTuple _ its.toArray from p) hu
  | int i=>obtain ⟨t,rfl⟩:=r2;exact SeqAt.RcAt.tuple_int _ _ (show s.heap.IsTuple _ its.toArray from p) hu
  | str x=>obtain ⟨t,rfl⟩:=r2;exact SeqAt.RcAt.tuple_str _ _ (show s.heap.IsTuple _ its.toArray from p) hu
  | @tup a' xs' ds' h' hs'=>
   cases (show u'=Value.ref a' from r2)
   ·obtain ⟨its',rv',p',hz'⟩:=I.tuple h'
    have l1:its.toArray.size=ds.length:=by rw [List.size_toArray,<-rv.length,hs.length]
    have l2:its'.toArray.size=ds'.length:=by rw [List.size_toArray,<-rv'.length,hs'.length]
    have key:=SeqAt.RcAt.tuples (A:=A) (s:=s) (show s.heap.IsTuple a its.toArray from p) (show s.heap.IsTuple a' its'.toArray from p') hu
     (kP (A:=A.in1) (s:=s) hs hs' rv rv' fun d d' v v' u u' hm iv iv' r r'=>rc ds (.inl rfl) d d' v v' u u' hm iv iv' r r')
    rw [l1,l2,<-kO] at key
    exact key
  | @lst a' xs' ds' h' hs'=>
   cases (show u'=Value.ref a' from r2)
   obtain ⟨its',rv',p',hz'⟩:=I.list h'
   exact SeqAt.RcAt.tuple_list (show s.heap.IsTuple _ its.toArray from p) p'.isList hu
 | @lst a xs ds h hs=>
  cases (show u=Value.ref a from r1)
  obtain ⟨its,rv,p,hz⟩:=I.list h
  cases h2 with
  | non=>cases (show u'=Value.none from r2);exact SeqAt.RcAt.list_none p.isList hu
  | bl b=>cases (show u'=Value.bool _ from r2);exact SeqAt.RcAt.list_bool _ p.isList hu
  | int i=>obtain ⟨t,rfl⟩:=r2;exact SeqAt.RcAt.list_int _ _ p.isList hu
  | str x=>obtain ⟨t,rfl⟩:=r2;exact SeqAt.RcAt.list_str _ _ p.isList hu
  | @tup a' xs' ds' h' hs'=>
   cases (show u'=Value.ref a' from r2)
   obtain ⟨its',rv',p',hz'⟩:=I.tuple h'
   exact SeqAt.RcAt.list_tuple p.isList (show s.heap.IsTuple _ its'.toArray from p') hu
  | @lst a' xs' ds' h' hs'=>
   cases (show u'=Value.ref a' from r2)
   ·obtain ⟨its',rv',p',hz'⟩:=I.list h'
    have l1:its.toArray.size=ds.length:=by rw [List.size_toArray,<-rv.length,hs.length]
    have l2:its'.toArray.size=ds'.length:=by rw [List.size_toArray,<-rv'.length,hs'.length]
    by_cases hl:ds.length=ds'.length
    ·have key:=SeqAt.RcAt.lists (A:=A) (s:=s) p.isList p'.isList (by rw [l1,l2,hl]) hu
      (kP (A:=A.in1) (s:=s) hs hs' rv rv' fun d d' v v' u u' hm iv iv' r r'=>rc ds (.inr rfl) d d' v v' u u' hm iv iv' r r')
     rw [l1,gD hl] at key
     exact key
    ·have key:=SeqAt.RcAt.lists_lengths (A:=A) (s:=s) p.isList p'.isList (by rw [l1,l2];simp [hl]) hu
     rw [eqD,uZ hl]
     exact key
theorem zEF (I:Inv X pins σ H s) {A:Around} {v v':V} {d d':D} {u u':Value} (h1:IsD X.K H v d) (h2:IsD X.K H v' d') (r1:cQ v u) (r2:cQ v' u') (hu:A.units < cLine)
  (rc:∀ ds,(d=.tup ds∨d=.lst ds)->∀ (e e':D) (w w':V) (z z':Value),e∈ds->IsD X.K H w e->IsD X.K H w' e'->cQ w z->cQ w' z'->SeqAt.EqAt A.in1 s z z' (eqD e e')):
  SeqAt.RcNeAt A s u u' (!eqD d d'):=by
 cases h1 with
 | non=>
  cases (show u=Value.none from r1)
  cases h2 with
  | non=>cases (show u'=Value.none from r2);exact SeqAt.RcNeAt.none_none
  | bl b=>cases (show u'=Value.bool _ from r2);exact SeqAt.RcNeAt.none_bool _
  | int i=>obtain ⟨t,rfl⟩:=r2;exact SeqAt.RcNeAt.none_int _ _
  | str x=>obtain ⟨t,rfl⟩:=r2;exact SeqAt.RcNeAt.none_str _ _
  | tup h hs=>cases (show u'=Value.ref _ from r2);obtain ⟨its,rv,p,hz⟩:=I.tuple h;exact SeqAt.RcNeAt.none_tuple (show s.heap.IsTuple _ its.toArray from p) hu
  | lst h hs=>cases (show u'=Value.ref _ from r2);obtain ⟨its,rv,p,hz⟩:=I.list h;exact SeqAt.RcNeAt.none_list p.isList hu
 | bl b=>
  cases (show u=Value.bool _ from r1)
  cases h2 with
  | non=>cases (show u'=Value.none from r2);exact SeqAt.RcNeAt.bool_none _
  | bl b=>cases (show u'=Value.bool _ from r2);exact SeqAt.RcNeAt.bool_bool _ _
  | int i=>obtain ⟨t,rfl⟩:=r2;exact SeqAt.RcNeAt.bool_int _ _ _
  | str x=>obtain ⟨t,rfl⟩:=r2;exact SeqAt.RcNeAt.bool_str _ _ _
  | tup h hs=>cases (show u'=Value.ref _ from r2);obtain ⟨its,rv,p,hz⟩:=I.tuple h;exact SeqAt.RcNeAt.bool_tuple _ (show s.heap.IsTuple _ its.toArray from p) hu
  | lst h hs=>cases (show u'=Value.ref _ from r2);obtain ⟨its,rv,p,hz⟩:=I.list h;exact SeqAt.RcNeAt.bool_list _ p.isList hu
 | int i=>
  obtain ⟨t,rfl⟩:=r1
  cases h2 with
  | non=>cases (show u'=Value.none from r2);exact SeqAt.RcNeAt.int_none _ _
  | bl b=>cases (show u'=Value.bool _ from r2);exact SeqAt.RcNeAt.int_bool _ _ _
  | int i=>obtain ⟨t,rfl⟩:=r2;exact SeqAt.RcNeAt.int_int _ _ _ _
  | str x=>obtain ⟨t,rfl⟩:=r2;exact SeqAt.RcNeAt.int_str _ _ _ _
  | tup h hs=>cases (show u'=Value.ref _ from r2);obtain ⟨its,rv,p,hz⟩:=I.tuple h;exact SeqAt.RcNeAt.int_tuple _ _ (show s.heap.IsTuple _ its.toArray from p) hu
  | lst h hs=>cases (show u'=Value.ref _ from r2);obtain ⟨its,rv,p,hz⟩:=I.list h;exact SeqAt.RcNeAt.int_list _ _ p.isList hu
 | str x=>
  obtain ⟨t,rfl⟩:=r1
  cases h2 with
  | non=>cases (show u'=Value.none from r2);exact SeqAt.RcNeAt.str_none _ _
  | bl b=>cases (show u'=Value.bool _ from r2);exact SeqAt.RcNeAt.str_bool _ _ _
  | int i=>obtain ⟨t,rfl⟩:=r2;exact SeqAt.RcNeAt.str_int _ _ _ _
  | str x=>obtain ⟨t,rfl⟩:=r2;exact SeqAt.RcNeAt.str_str _ _ _ _
  | tup h hs=>cases (show u'=Value.ref _ from r2);obtain ⟨its,rv,p,hz⟩:=I.tuple h;exact SeqAt.RcNeAt.str_tuple _ _ (show s.heap.IsTuple _ its.toArray from p) hu
  | lst h hs=>cases (show u'=Value.ref _ from r2);obtain ⟨its,rv,p,hz⟩:=I.list h;exact SeqAt.RcNeAt.str_list _ _ p.isList hu
 | @tup a xs ds h hs=>
  cases (show u=Value.ref a from r1)
  obtain ⟨its,rv,p,hz⟩:=I.tuple h
  cases h2 with
  | non=>cases (show u'=Value.none from r2);exact SeqAt.RcNeAt.tuple_none (show s.heap.IsTuple _ its.toArray from p) hu
  | bl b=>cases (show u'=Value.bool _ from r2);exact SeqAt.RcNeAt.tuple_bool _ (show s.heap.IsTuple _ its.toArray from p) hu
  | int i=>obtain ⟨t,rfl⟩:=r2;exact SeqAt.RcNeAt.tuple_int _ _ (show s.heap.IsTuple _ its.toArray from p) hu
  | str x=>obtain ⟨t,rfl⟩:=r2;exact SeqAt.RcNeAt.tuple_str _ _ (show s.heap.IsTuple _ its.toArray from p) hu
  | @tup a' xs' ds' h' hs'=>
   cases (show u'=Value.ref a' from r2)
   ·obtain ⟨its',rv',p',hz'⟩:=I.tuple h'
    have l1:its.toArray.size=ds.length:=by rw [List.size_toArray,<-rv.length,hs.length]
    have l2:its'.toArray.size=ds'.length:=by rw [List.size_toArray,<-rv'.length,hs'.length]
    have key:=SeqAt.RcNeAt.tuples (A:=A) (s:=s) (show s.heap.IsTuple a its.toArray from p) (show s.heap.IsTuple a' its'.toArray from p') hu
     (kP (A:=A.in1) (s:=s) hs hs' rv rv' fun d d' v v' u u' hm iv iv' r r'=>rc ds (.inl rfl) d d' v v' u u' hm iv iv' r r')
    rw [l1,l2,<-kO] at key
    exact key
  | @lst a' xs' ds' h' hs'=>
   cases (show u'=Value.ref a' from r2)
   obtain ⟨its',rv',p',hz'⟩:=I.list h'
   exact SeqAt.RcNeAt.tuple_list (show s.heap.IsTuple _ its.toArray from p) p'.isList hu
 | @lst a xs ds h hs=>
  cases (show u=Value.ref a from r1)
  obtain ⟨its,rv,p,hz⟩:=I.list h
  cases h2 with
  | non=>cases (show u'=Value.none from r2);exact SeqAt.RcNeAt.list_none p.isList hu
  | bl b=>cases (show u'=Value.bool _ from r2);exact SeqAt.RcNeAt.list_bool _ p.isList hu
  | int i=>obtain ⟨t,rfl⟩:=r2;exact SeqAt.RcNeAt.list_int _ _ p.isList hu
  | str x=>obtain ⟨t,rfl⟩:=r2;exact SeqAt.RcNeAt.list_str _ _ p.isList hu
  | @tup a' xs' ds' h' hs'=>
   cases (show u'=Value.ref a' from r2)
   obtain ⟨its',rv',p',hz'⟩:=I.tuple h'
   exact SeqAt.RcNeAt.list_tuple p.isList (show s.heap.IsTuple _ its'.toArray from p') hu
  | @lst a' xs' ds' h' hs'=>
   cases (show u'=Value.ref a' from r2)
   ·obtain ⟨its',rv',p',hz'⟩:=I.list h'
    have l1:its.toArray.size=ds.length:=by rw [List.size_toArray,<-rv.length,hs.length]
    have l2:its'.toArray.size=ds'.length:=by rw [List.size_toArray,<-rv'.length,hs'.length]
    by_cases hl:ds.length=ds'.length
    ·have key:=SeqAt.RcNeAt.lists (A:=A) (s:=s) p.isList p'.isList (by rw [l1,l2,hl]) hu
      (kP (A:=A.in1) (s:=s) hs hs' rv rv' fun d d' v v' u u' hm iv iv' r r'=>rc ds (.inr rfl) d d' v v' u u' hm iv iv' r r')
     rw [l1,gD hl] at key
     exact key
    ·have key:=SeqAt.RcNeAt.lists_lengths (A:=A) (s:=s) p.isList p'.isList (by rw [l1,l2];simp [hl]) hu
     rw [eqD,uZ hl]
     exact key
theorem eqA {X:Cx} (hu:X.A.units+64 < cLine):OpR X (compareOp .Eq) (fun x y H Q=>∃ d d',IsD X.K H x d/\IsD X.K H y d'/\dep d<=50/\Q (.bl (eqD d d')) H):=by
 intro pins s σ H x y v u Q I rx ry h
 obtain ⟨d,d',h1,h2,hn,q⟩:=h
 refine zDl I h1 h2 rx ry (by omega) (fun ds hd e e' w w' z z' hm i1 i2 q1 q2=>?_) X.prog X.w X.xe _ ⟨.bl _,H,I,rfl,q⟩
 refine zEo I 50 ?_ i1 i2 X.A.in1 z z' (by show X.A.units+1+50 < cLine;omega) q1 q2
 have:=rF hm
 rcases hd with rfl | rfl<;>(rw [dep] at hn;omega)
theorem neA {X:Cx} (hu:X.A.units+64 < cLine):OpR X (compareOp .NotEq) (fun x y H Q=>∃ d d',IsD X.K H x d/\IsD X.K H y d'/\dep d<=50/\Q (.bl (!eqD d d')) H):=by
 intro pins s σ H x y v u Q I rx ry h
 obtain ⟨d,d',h1,h2,hn,q⟩:=h
 refine zEF I h1 h2 rx ry (by omega) (fun ds hd e e' w w' z z' hm i1 i2 q1 q2=>?_) X.prog X.w X.xe _ ⟨.bl _,H,I,rfl,q⟩
 refine zEo I 50 ?_ i1 i2 X.A.in1 z z' (by show X.A.units+1+50 < cLine;omega) q1 q2
 have:=rF hm
 rcases hd with rfl | rfl<;>(rw [dep] at hn;omega)
theorem tT {X:Cx}:OpK X (fun x y H Q=>∃ d d',IsD X.K H x d/\IsD X.K H y d'/\dep d<=50/\Q (.bl (eqD d d')) H) oEq:=⟨fun a b c z=>(by
  unfold oEq at z;split at z<;>cases z),fun Hi H x y a b d Q s r1 r2 z q=>by
  unfold oEq at z
  split at z
  ·rename_i h;cases z;exact ⟨a,b,r1.mono s,r2.mono s,h,q _ Hi H (Ext.refl s) (.bl _)⟩
  ·cases z⟩
theorem zCT {X:Cx}:OpK X (fun x y H Q=>∃ d d',IsD X.K H x d/\IsD X.K H y d'/\dep d<=50/\Q (.bl (!eqD d d')) H) oNe:=⟨fun a b c z=>(by
  unfold oNe at z;split at z<;>cases z),fun Hi H x y a b d Q s r1 r2 z q=>by
  unfold oNe at z
  split at z
  ·rename_i h;cases z;exact ⟨a,b,r1.mono s,r2.mono s,h,q _ Hi H (Ext.refl s) (.bl _)⟩
  ·cases z⟩
open Classical in
def zJq (K:PySem.W.Frag) (H:Hp) (dx:D) (u:Value):Bool:=if ∃ w d,IsD K H w d/\cQ w u/\eqD d dx=true then true else false
theorem zER (I:Inv X pins σ H s) {dx d:D} {w:V} {u:Value} (h:IsD X.K H w d) (r:cQ w u):zJq X.K H dx u=eqD d dx:=by
 unfold zJq
 by_cases e:eqD d dx=true
 ·rw [if_pos ⟨w,d,h,r,e⟩,e]
 ·rw [if_neg]
  ·simpa using e
  ·rintro ⟨w',d',h',r',e'⟩
   have:=r.inj r'
   subst this
   have:=IsD.inj I h h'
   subst this
   exact e e'
theorem zAL (I:Inv X pins σ H s) {dx:D}:∀ {xs:List V} {ds:List D} {us:List Value},IsDs X.K H xs ds->cM xs us->us.any (zJq X.K H dx)=ds.any fun d=>eqD d dx
 | _,_,_,.nil,.nil=>rfl
 | _,_,_,.cons h hs,.cons r t=>by rw [List.any_cons,List.any_cons,zER I h r,zAL I hs t]
theorem zAg (I:Inv X pins σ H s) {A:Around} {dx:D} {x:V} {ux:Value} (hx:IsD X.K H x dx) (rx:cQ x ux) (hu:A.units+50 < cLine):∀ {xs:List V} {ds:List D} {us:List Value},IsDs X.K H xs ds->cM xs us->(∀ d∈ds,dep d<=50)->∀ u∈us,SeqAt.EqAt A s u ux (zJq X.K H dx u)
 | _,_,_,.nil,.nil,_=>fun u hu=>by cases hu
 | _,_,_,.cons h hs,.cons r t,f=>fun u hm=>by
  rcases List.mem_cons.mp hm with rfl | hm
  ·rw [zER I h r];exact zEo I 50 (f _ List.mem_cons_self) h hx A _ ux hu r rx
  ·exact zAg I hx rx hu hs t (fun d hd=>f d (List.mem_cons_of_mem _ hd)) u hm
def zMW (K:PySem.W.Frag) (neg:Bool):R2:=fun x y H Q=>∃ d ds,IsD K H x d/\(IsD K H y (.lst ds)∨IsD K H y (.tup ds))/\depS ds<=50/\Q (.bl (if neg=true then !(ds.any fun e=>eqD e d) else ds.any fun e=>eqD e d)) H
theorem inA {X:Cx} (hu:X.A.units+64 < cLine):OpR X (compareOp .In) (zMW X.K false):=by
 intro pins s σ H x y v u Q I rx ry h
 obtain ⟨d,ds,h1,h2,hn,q⟩:=h
 have hd:∀ e∈ds,dep e<=50:=fun e he=>Nat.le_trans (rF he) hn
 rcases h2 with h2 | h2
 ·obtain ⟨a,xs,rfl,hl,hs⟩:=h2.lstI
  cases ry
  obtain ⟨its,rv,p,hz⟩:=I.list hl
  refine SeqAt.in_listAt (zJq X.K H d) p.isList (fun y hy=>zAg I h1 rx (by show X.A.units+1+50 < cLine;omega) hs rv hd y (by simpa using hy)) ?_
  exact ⟨.bl _,H,I,by rw [List.any_toArray,zAL I hs rv];rfl,q⟩
 ·obtain ⟨a,xs,rfl,hl,hs⟩:=h2.tupI
  cases ry
  obtain ⟨its,rv,p,hz⟩:=I.tuple hl
  refine SeqAt.in_tupleAt (zJq X.K H d) (show s.heap.IsTuple _ its.toArray from p) (fun y hy=>zAg I h1 rx (by show X.A.units+1+50 < cLine;omega) hs rv hd y (by simpa using hy)) ?_
  exact ⟨.bl _,H,I,by rw [List.any_toArray,zAL I hs rv];rfl,q⟩
theorem zNm {X:Cx}:OpK X (zMW X.K false) oIn:=⟨fun a b c z=>(by
  cases b<;>first | cases z | (simp only [oIn] at z;split at z<;>cases z)),fun Hi H x y a b d Q s r1 r2 z q=>by
  cases b<;>first | cases z | skip
  ·rename_i ds
   simp only [oIn] at z
   split at z
   ·rename_i h;cases z;exact ⟨a,ds,r1.mono s,.inr (r2.mono s),h,q _ Hi H (Ext.refl s) (.bl _)⟩
   ·cases z
  ·rename_i ds
   simp only [oIn] at z
   split at z
   ·rename_i h;cases z;exact ⟨a,ds,r1.mono s,.inl (r2.mono s),h,q _ Hi H (Ext.refl s) (.bl _)⟩
   ·cases z⟩
end
end L3
namespace L3
open PySem PySem.Spec PyProof.Rows L2
unseal PEd PEf PTd PWd PAd PSd eV
section
variable {X:Cx} {G:Gx} {a b e:Expr} {es:List Expr} {pos p:Pos} {f g:Ev} {fs gs:Fv} {t u:Tv} {x:Str} {id T:String}
def zAJ (X:Cx) (r:List V->Hp->VK->Prop) (o:List D->Res D):Prop:=(∀ a c,o a≠.err c)/\∀ (Hi H:Hp) (vs:List V) (ds:List D) (d:D) (Q:VK),Same Hi H->IsDs X.K Hi vs ds->o ds=.ok d->
 (∀ v Hi' H',Ext Hi H Hi' H'->IsD X.K Hi' v d->Q v H')->r vs H Q
theorem zKx {r:List V->Hp->VK->Prop} {o:List D->Res D} (k:zAJ X r o):∀ σ H Q,tD X G (eB o fs) σ H Q->tCB r (tAs X G fs) σ H Q:=fun σ H Q q=>by
 obtain ⟨ρ,Hi,R,ou⟩:=q
 refine zFo R ou fun vs ds Hi1 H1 e1 R1 r1 o1=>?_
 cases z:o ds with
 | no=>rw [z] at o1;exact o1.elim
 | err c=>exact absurd z (k.1 ds c)
 | ok d=>rw [z] at o1;exact k.2 Hi1 H1 vs ds d Q R1.s r1 z fun v Hi2 H2 e2 r2=>o1 Hi2 H2 e2 v r2
theorem aZ {r:List V->Hp->VK->Prop} {o:List D->Res D} (hc:sY X (.builtin id) r) (k:zAJ X r o) (hg:Gl X x) (hm:X.mg x=none) (hv:bootBuiltins x=some (.builtin id)) (ha:PAd X G (e::es) fs) (hn:x ≠ "__name__" := by decide) (hdb:(x==("__debug__" : Str))=false:=by decide)
  (he:starEach (e::es) X.env=(false,eval e X.env)::starEach es X.env:=by rfl) (hpl:(backTo pos (starEach es X.env)).any (·.1)=false:=by rfl):PEd X G (.Call (.Name x p) (e::es) [] pos) (eB o fs):=
 PE.wk (wO hc hg hm hv ha hn hdb he hpl) (zKx k)
theorem qI {r:List V->Hp->VK->Prop} {o:List D->Res D} (hc:sY X (.type T) r) (k:zAJ X r o) (hg:Gl X x) (hm:X.mg x=none) (hv:bootBuiltins x=some (.type T)) (ha:PAd X G (e::es) fs) (hn:x ≠ "__name__" := by decide) (hdb:(x==("__debug__" : Str))=false:=by decide)
  (he:starEach (e::es) X.env=(false,eval e X.env)::starEach es X.env:=by rfl) (hpl:(backTo pos (starEach es X.env)).any (·.1)=false:=by rfl):PEd X G (.Call (.Name x p) (e::es) [] pos) (eB o fs):=
 PE.wk (yG hc hg hm hv ha hn hdb he hpl) (zKx k)
theorem IsDs.one {K:PySem.W.Frag} {H:Hp} {vs:List V} {d:D} (h:IsDs K H vs [d]):∃ v,vs=[v]/\IsD K H v d:=by
 cases h with
 | cons h t=>cases t;exact ⟨_,rfl,h⟩
theorem IsDs.two {K:PySem.W.Frag} {H:Hp} {vs:List V} {d d':D} (h:IsDs K H vs [d,d']):∃ v w,vs=[v,w]/\IsD K H v d/\IsD K H w d':=by
 cases h with
 | cons h t=>obtain ⟨w,rfl,hw⟩:=t.one;exact ⟨_,w,rfl,h,hw⟩
theorem dX:zAJ X (fun xs H Q=>∃ p ys,xs=[.ref p]/\(SqL X.K H p ys∨SqT X.K H p ys)/\Q (.int ys.length) H) kZ:=⟨fun a c z=>(by
  unfold kZ at z;split at z<;>cases z),fun Hi H vs ds d Q s r z q=>by
  unfold kZ at z
  split at z
  ·cases z
   obtain ⟨v,rfl,h⟩:=r.one
   obtain ⟨a,xs,rfl,h1,h2⟩:=h.lstI
   refine ⟨a,xs,rfl,.inl (cK s h1),?_⟩
   rw [h2.length]
   exact q _ Hi H (Ext.refl s) (.int _)
  ·cases z
   obtain ⟨v,rfl,h⟩:=r.one
   obtain ⟨a,xs,rfl,h1,h2⟩:=h.tupI
   refine ⟨a,xs,rfl,.inr (cD s h1),?_⟩
   rw [h2.length]
   exact q _ Hi H (Ext.refl s) (.int _)
  ·cases z⟩
theorem zBH:zAJ X (fun xs H Q=>∃ i,xs=[.int i]/\Q (.int (if i < 0 then -i else i)) H) zGw:=⟨fun a c z=>(by
  unfold zGw at z;split at z<;>cases z),fun Hi H vs ds d Q s r z q=>by
  unfold zGw at z
  split at z
  ·cases z
   obtain ⟨v,rfl,h⟩:=r.one
   exact ⟨_,by rw [h.intI],q _ Hi H (Ext.refl s) (.int _)⟩
  ·cases z⟩
theorem zEU:zAJ X (fun xs H Q=>∃ p ys,xs=[.ref p]/\((SqL X.K H p ys/\∀ l,H l=none->Q (.ref l) (upd H l (.tup ys)))∨(SqT X.K H p ys/\Q (.ref p) H))) zHb:=⟨fun a c z=>(by
  unfold zHb at z;split at z<;>cases z),fun Hi H vs ds d Q s r z q=>by
  unfold zHb at z
  split at z
  ·cases z
   obtain ⟨v,rfl,h⟩:=r.one
   obtain ⟨a,xs,rfl,h1,h2⟩:=h.lstI
   exact ⟨a,xs,rfl,.inl ⟨cK s h1,fun l hl=>q _ _ _ (Ext.new s hl) (.tup (SqT.of aW) (h2.mono (cU (s.none hl) _)))⟩⟩
  ·cases z
   obtain ⟨v,rfl,h⟩:=r.one
   obtain ⟨a,xs,rfl,h1,h2⟩:=h.tupI
   exact ⟨a,xs,rfl,.inr ⟨cD s h1,q _ Hi H (Ext.refl s) (.tup h1 h2)⟩⟩
  ·cases z⟩
theorem zEJ (hg:Gl X "list") (hm:X.mg "list" = none) (hv:bootBuiltins "list" = some (.type "list")) (ha:PAd X G (e::es) fs)
  (he:starEach (e::es) X.env=(false,eval e X.env)::starEach es X.env:=by rfl) (hpl:(backTo pos (starEach es X.env)).any (·.1)=false:=by rfl):PEf X G (.Call (.Name "list" p) (e::es) [] pos) (zGp fs):=
 PE.wk (yG yJ hg hm hv ha (by decide) (by decide) he hpl) fun σ H Q q=>by
 obtain ⟨ρ,Hi,R,ou⟩:=q
 refine zFo R ou fun vs ds Hi1 H1 e1 R1 r1 o1=>?_
 split at o1
 ·obtain ⟨v,rfl,h⟩:=r1.one
  obtain ⟨a,xs,rfl,h1,h2⟩:=h.lstI
  exact ⟨a,xs,rfl,.inl (cK R1.s h1),fun l hl=>o1 _ _ (Ext.newF R1.s hl) l ⟨e1.h.none hl,R1.s.none hl,xs,aW,h2⟩⟩
 ·obtain ⟨v,rfl,h⟩:=r1.one
  obtain ⟨a,xs,rfl,h1,h2⟩:=h.tupI
  exact ⟨a,xs,rfl,.inr (cD R1.s h1),fun l hl=>o1 _ _ (Ext.newF R1.s hl) l ⟨e1.h.none hl,R1.s.none hl,xs,aW,h2⟩⟩
 ·exact o1.elim
structure Kit (K:PySem.W.Frag) (T:String):Prop where
 non:PySem.W.kitOne K (.type "NoneType") (.type T)=some (isT T .non)
 bl:PySem.W.kitOne K (.type "bool") (.type T)=some (isT T (.bl true))
 int:PySem.W.kitOne K (.type "int") (.type T)=some (isT T (.int 0))
 str:PySem.W.kitOne K (.type "str") (.type T)=some (isT T (.str ⟨#[]⟩))
 tup:PySem.W.kitOne K (.type "tuple") (.type T)=some (isT T (.tup []))
 lst:PySem.W.kitOne K (.type "list") (.type T)=some (isT T (.lst []))
theorem zLd (k:Kit X.K T):sY X (.builtin "isinstance") (fun xs H Q=>∃ y d,xs=[y,.ty T]/\IsD X.K H y d/\Q (.bl (isT T d)) H):=by
 intro pins s σ H xs us Q I r h
 obtain ⟨y,d,rfl,hd,q⟩:=h
 obtain ⟨u,w',rfl,rx,rc⟩:=zLQ r
 cases rc
 have fin:∀ tk,EP X pins σ Q (.bool (isT T d)) { s with toks:=tk }:=fun tk=>⟨.bl _,H,I.tok _,rfl,q⟩
 cases hd with
 | non=>cases (show u=Value.none from rx);exact PySem.W.kia_one PySem.W.kitx_none I.kIn True.intro k.non (fun z=>nomatch z) fin
 | bl y=>cases (show u=Value.bool y from rx);exact PySem.W.kia_one PySem.W.kitx_bool I.kIn True.intro k.bl (fun z=>nomatch z) fin
 | int i=>obtain ⟨t,q⟩:=(show ∃ t,u=Value.int i t from rx);cases q;exact PySem.W.kia_one PySem.W.kitx_int I.kIn True.intro k.int (fun z=>nomatch z) fin
 | str y=>obtain ⟨t,q⟩:=(show ∃ t,u=Value.str y t from rx);cases q;exact PySem.W.kia_one PySem.W.kitx_str I.kIn True.intro k.str (fun z=>nomatch z) fin
 | @tup a xs ds h hs=>
  cases (show u=Value.ref a from rx)
  obtain ⟨its,rv,⟨o,h1,h2,_⟩,hz⟩:=I.tuple h
  exact PySem.W.kia_one PySem.W.kitx_tuple I.kIn ⟨o,h1,h2⟩ k.tup (fun z=>nomatch z) fin
 | @lst a xs ds h hs=>
  cases (show u=Value.ref a from rx)
  obtain ⟨its,rv,⟨o,n,h1,h2,_⟩,hz⟩:=I.list h
  exact PySem.W.kia_one PySem.W.kitx_list I.kIn ⟨o,h1,h2⟩ k.lst (fun z=>nomatch z) fin
theorem tZ {c:Expr} (k:Kit X.K T) (hg:Gl X "isinstance") (hm:X.mg "isinstance" = none) (ha:PEd X G a f) (hc:PE X c (tC (.ty T)))
  (h1:starEach [a,c] X.env=(false,eval a X.env)::starEach [c] X.env:=by rfl) (h2:starEach [c] X.env=(false,eval c X.env)::starEach [] X.env:=by rfl) (hpl:(backTo pos (starEach [c] X.env)).any (·.1)=false:=by rfl):
  PEd X G (.Call (.Name "isinstance" p) [a,c] [] pos) (zGM T f):=
 PE.wk (wO (zLd k) hg hm boot_isinstance (iX ha (iX hc oM h2) h1) (by decide) (by decide) h1 hpl) fun σ H Q q=>by
 obtain ⟨ρ,Hi,R,ou⟩:=q
 refine zAP R ou fun v d Hi1 H1 e1 R1 r1 o1=>?_
 exact ⟨v,d,rfl,r1.mono R1.s,o1.here R1.s _ (.bl _)⟩
variable {lo hi:Option Expr} {l h:Ov} {p2:Pos}
def tOv (X:Cx) (G:Gx) (f:Ov):TO:=fun σ H Q=>∃ ρ Hi,jF X G Hi H σ ρ/\Out G Hi H (f ρ) fun o _ H'=>Q o H'
@[irreducible] def POd (X:Cx) (G:Gx) (e:Option Expr) (f:Ov):Prop:=PO X e (tOv X G f)
unseal POd
theorem PO.wk {X:Cx} {e:Option Expr} {t t':TO} (h:PO X e t) (w:∀ σ H Q,t' σ H Q->t σ H Q):PO X e t':=fun pins s σ H Q I q=>h pins s σ H Q I (w σ H Q q)
theorem zHx:POd X G none oN:=PO.wk zIl fun σ H Q q=>by
 obtain ⟨ρ,Hi,R,ou⟩:=q
 exact ou.here R.s
theorem zAs (he:PEd X G e f):POd X G (some e) (oS f):=PO.wk (zHI he) fun σ H Q q=>by
 obtain ⟨ρ,Hi,R,ou⟩:=q
 refine zAP R ou fun v d Hi1 H1 e1 R1 r1 o1=>?_
 cases d with
 | int i=>exact ⟨i,r1.intI,o1.here R1.s⟩
 | _=>exact o1.elim
theorem zMD {f:Ov} {Hi H:Hp} {σ:St} {ρ:Rho} {β:Type} {k:Option Int->Res β} {k':β->Hp->Hp->Prop} {Q:Option Int->Hp->Prop} (R:jF X G Hi H σ ρ) (o:Out G Hi H ((f ρ).bind k) k')
  (w:∀ c Hi' H',Ext Hi H Hi' H'->jF X G Hi' H' σ ρ->Out G Hi' H' (k c) k'->Q c H'):tOv X G f σ H Q:=
 ⟨ρ,Hi,R,o.bind.imp fun d Hi' H' e q=>w d Hi' H' e (R.grow e) q⟩
theorem zEA (n d:Nat) (i:Option Int):cut n i d=HT.sIx n d i:=by
 cases i with
 | none=>rfl
 | some i=>
  simp only [cut,HT.sIx]
  split<;>split<;>omega
theorem IsDs.cut {K:PySem.W.Frag} {H:Hp} {xs:List V} {ds:List D} (h:IsDs K H xs ds) (l r:Option Int):IsDs K H (zJm xs l r) (jJ ds l r):=by
 unfold zJm jJ
 rw [zEA,zEA,h.length]
 exact (h.drop _).take _
theorem zCe (he:PEd X G e f) (hl:POd X G lo l) (hu:POd X G hi h):PEf X G (.Subscript e (.Slice lo hi none p2) pos) (fSl f l h):=PE.wk (zFX zIP he hl hu) fun σ H Q q=>by
 obtain ⟨ρ,Hi,R,ou⟩:=q
 refine zAP R ou fun v d Hi1 H1 e1 R1 r1 o1=>?_
 refine zMD R1 o1 fun i Hi2 H2 e2 R2 o2=>?_
 refine zMD R2 o2 fun j Hi3 H3 e3 R3 o3=>?_
 cases d with
 | lst ds=>
  obtain ⟨a,xs,rfl,h1,h2⟩:=r1.lstI
  refine ⟨a,xs,rfl,cK (e2.i.trans (e3.i.trans R3.s)) h1,fun p hp=>?_⟩
  exact o3 _ _ (Ext.newF R3.s hp) p ⟨(e1.h.trans (e2.h.trans e3.h)).none hp,R3.s.none hp,_,aW,(h2.cut i j).mono (e2.i.trans e3.i)⟩
 | _=>exact o3.elim
def zMk (K:PySem.W.Frag):R2:=fun x y H Q=>∃ l b xs zs,x=.ref l/\y=.ref b/\SqL K H l xs/\SqL K H b zs/\xs.length+zs.length<=sizeLine/\∀ p,H p=none->Q (.ref p) (upd H p (.lst (xs++zs)))
theorem zHs:OpR X (binaryOp .Add) (zMk X.K):=by
 intro pins s σ H x y v u Q I rx ry h
 obtain ⟨l,b,xs,zs,rfl,rfl,hl,hb,hz,q⟩:=h
 cases rx
 cases ry
 obtain ⟨its,r,p,_⟩:=I.list hl
 obtain ⟨its2,r2,p2,_⟩:=I.list hb
 obtain ⟨⟨cls,dd,data,sl⟩,ho,hc,n,hd⟩:=id p.isList
 obtain ⟨⟨cls2,dd2,data2,sl2⟩,ho2,hc2,n2,hd2⟩:=id p2.isList
 simp only at hc hd hc2 hd2
 subst hc hd hc2 hd2
 have hsz:its.toArray.size+its2.toArray.size<=sizeLine:=by rw [List.size_toArray,List.size_toArray,<-r.length,<-r2.length];exact hz
 have e:its.toArray++its2.toArray=(its++its2).toArray:=by simp
 refine concat_meets ⟨_,ho,rfl⟩ ⟨_,ho2,rfl⟩ noFill_list_add seq_list_add PySem.F.slot_list_add PySem.F.entry_list_add (PySem.F.args_list_add_2 _ _) (list_addW l b its.toArray its2.toArray n n2 dd dd2 sl sl2 hsz) ⟨ho,ho2,?_⟩
 rw [e]
 exact ⟨.ref _,_,I.lnew (t':=s.toks) (r.append r2) (by rw [List.length_append];exact hz),rfl,q _ I.fresh⟩
theorem zKe (ha:PEd X G a f) (hb:PEd X G b g):PEf X G (.BinOp a .Add b pos) (zMr f g):=PE.wk (zDP zHs ha hb) fun σ H Q q=>by
 obtain ⟨ρ,Hi,R,ou⟩:=q
 refine zAP R ou fun v d Hi1 H1 e1 R1 r1 o1=>?_
 refine zAP R1 o1 fun w d' Hi2 H2 e2 R2 r2 o2=>?_
 cases d<;>first | exact o2.elim | skip
 cases d'<;>first | exact o2.elim | skip
 rename_i ds es
 obtain ⟨a,xs,rfl,h1,h2⟩:=r1.lstI
 obtain ⟨b,ys,rfl,h3,h4⟩:=r2.lstI
 have o2':Out G Hi2 H2 (if ds.length+es.length<=16777216 then Res.ok (ds++es) else .no) _:=o2
 by_cases hz:ds.length+es.length<=16777216
 ·rw [if_pos hz] at o2'
  refine ⟨a,b,xs,ys,rfl,rfl,cK (e2.i.trans e2.s) h1,cK e2.s h3,by rw [h2.length,h4.length];exact hz,fun p hp=>?_⟩
  exact o2' _ _ (Ext.newF e2.s hp) p ⟨(e1.h.trans e2.h).none hp,e2.s.none hp,_,aW,(h2.mono e2.i).append h4⟩
 ·rw [if_neg hz] at o2';exact o2'.elim
end
end L3
namespace L3
open PySem PySem.Spec PyProof.Rows L2
unseal PEd PEf PTd PWd PAd PSd eV POd
section
variable {X:Cx} {G:Gx} {a b e:Expr} {es:List Expr} {pos p:Pos} {f g:Ev} {fs gs:Fv} {t u:Tv} {x:Str} {st:Stmt} {rest:List Stmt} {sa sb:Sv}
theorem lS {Hi H:Hp} {σ:St} {ρ:Rho} {E:Ends} {α:Type} {r:Res α} {k:α->Res Fl} (R:jF X G Hi H σ ρ) (h:Fin X G Hi E (r.bind k)) {Q:α->Hp->Hp->Prop}
  (w:∀ a Hi' H',r=.ok a->Ext Hi H Hi' H'->Fin X G Hi' E (k a)->Q a Hi' H'):Out G Hi H r Q:=by
 cases r with
 | no=>exact h
 | err c=>exact fun Hi' H' e=>h Hi' H' (R.ext.trans e)
 | ok a=>exact fun Hi' H' e=>w a Hi' H' rfl e (Fin.mono (show Fin X G Hi E (k a) from h) e.i)
theorem bH:eV X G [] sNext:=PSs.wk zEC fun E σ H q=>by
 obtain ⟨ρ,Hi,R,h⟩:=q
 exact h σ Hi H (Same.refl _) R
theorem zJK {E:Ends} {Hi:Hp} {ρ:Rho} (h:Fin X G Hi E (bF sa sb ρ)):Fin X G Hi { E with nx:=tS X G sb E } (sa ρ):=by
 unfold bF at h
 cases z:sa ρ with
 | no=>rw [z] at h;exact h
 | err c=>rw [z] at h;exact h
 | ok fl=>
  rw [z] at h
  cases fl with
  | nx ρ'=>exact fun σ' Hi' H' s R'=>⟨ρ',Hi',R',Fin.mono (show Fin X G Hi E (sb ρ') from h) s⟩
  | brk ρ'=>exact h
  | ctn ρ'=>exact h
  | ret r=>cases r<;>exact h
theorem zKo {E:Ends} {σ:St} {H:Hp} (q:tS X G (bF sa sb) E σ H):tS X G sa { E with nx:=tS X G sb E } σ H:=by
 obtain ⟨ρ,Hi,R,h⟩:=q
 exact ⟨ρ,Hi,R,zJK h⟩
theorem aG (h1:PSd X G st sa) (h2:eV X G rest sb):eV X G (st::rest) (bF sa sb):=PSs.wk (pH h1 h2) fun _ _ _ q=>zKo q
theorem aL (h1:PSd X G st sa):eV X G [st] sa:=vB h1
theorem uH (he:PEd X G e f) (hs:swapsWith e none pos.line X.env=pure false:=by rfl):PSd X G (.Expr e pos) (zR f):=PS.wk (zAR he hs) fun E σ H q=>by
 obtain ⟨ρ,Hi,R,h⟩:=q
 exact ⟨ρ,Hi,R,lS R h fun d Hi' H' _ e h' v r=>h' σ Hi' H' (Same.refl _) (R.grow e)⟩
theorem dI (he:PEd X G e f):PSd X G (.Return (some e) pos) (jL f):=PS.wk (zBG he) fun E σ H q=>by
 obtain ⟨ρ,Hi,R,h⟩:=q
 obtain ⟨Hf,s1,R1,fl⟩:=R.frz
 refine ⟨ρ.map Sl.frz,Hf,R1,lS R1 (Fin.mono h s1) fun d Hi' H' _ e h' v r=>?_⟩
 exact h' v Hi' H' (R1.ext.trans e) r
theorem fS (he:PEf X G e fs):PSd X G (.Return (some e) pos) (jO fs):=PS.wk (zBG he) fun E σ H q=>by
 obtain ⟨ρ,Hi,R,h⟩:=q
 obtain ⟨Hf,s1,R1,fl⟩:=R.frz
 refine ⟨ρ.map Sl.frz,Hf,R1,lS R1 (Fin.mono h s1) fun ds Hi' H' _ e h' a n=>?_⟩
 obtain ⟨n1,n2,xs,n3,n4⟩:=n
 exact h' a Hi' H' (R1.ext.trans e) ⟨R1.ext.h.none n1,n2,xs,n3,n4⟩
theorem jB (i:Nat) (he:PE X e (zCK i)):PSd X G (.Return (some e) pos) (gF i):=PS.wk (zBG he) fun E σ H q=>by
 obtain ⟨ρ,Hi,R,h⟩:=q
 unfold gF at h
 cases z:ρ[i]? with
 | none=>rw [z] at h;exact h.elim
 | some s=>
  rw [z] at h
  cases s with
  | own ds=>
   obtain ⟨a,xs,p,h1,h2,h3,h4⟩:=R.slot i _ z
   exact ⟨.ref a,p,h a Hi H R.ext ⟨h3,h2,xs,h1,h4⟩⟩
  | un=>exact h.elim
  | val d=>exact h.elim
  | exc c=>exact h.elim
  | tab T=>exact h.elim
theorem iY {c:Expr} {as bs:List Stmt} (hc:PTd X G c t) (ha:eV X G as sa) (hb:eV X G bs sb):PSd X G (.If c as bs pos) (sIf t sa sb):=PS.wk (zKt hc ha hb) fun E σ H q=>by
 obtain ⟨ρ,Hi,R,h⟩:=q
 refine ⟨ρ,Hi,R,lS R h fun c Hi' H' _ e h'=>?_⟩
 cases c with
 | true=>exact ⟨ρ,Hi',R.grow e,h'⟩
 | false=>exact ⟨ρ,Hi',R.grow e,h'⟩
theorem bI {i:Nat} {pos':Pos} (hN:X.N.Nodup) (hi:X.N[i]?=some x) (hx:Loc X.env.scope x) (he:PEd X G e f) (hs:swapsWith e (some (.Name x pos')) pos.line X.env=pure false:=by rfl)
  (hf:X.fn x=true∨X.env.scope.names.lookup x=some .local:=by first | exact .inl rfl | exact .inr rfl | assumption):PSd X G (.Assign [.Name x pos'] e pos) (dU i f):=PS.wk (zHi hN hi hx he hs hf) fun E σ H q=>by
 obtain ⟨ρ,Hi,R,h⟩:=q
 exact ⟨ρ,Hi,R,lS R h fun d Hi' H' _ e h' v r=>h' _ Hi' H' (Same.refl _) ((R.grow e).set r)⟩
theorem rJ {i:Nat} {pos':Pos} (hN:X.N.Nodup) (hi:X.N[i]?=some x) (hx:Loc X.env.scope x) (he:PEf X G e fs) (hs:swapsWith e (some (.Name x pos')) pos.line X.env=pure false:=by rfl)
  (hf:X.fn x=true∨X.env.scope.names.lookup x=some .local:=by first | exact .inl rfl | exact .inr rfl | assumption):PSd X G (.Assign [.Name x pos'] e pos) (zCv i fs):=PS.wk (zHi hN hi hx he hs hf) fun E σ H q=>by
 obtain ⟨ρ,Hi,R,h⟩:=q
 refine ⟨ρ,Hi,R,lS R h fun ds Hi' H' _ e h' a n=>?_⟩
 obtain ⟨n1,n2,xs,n3,n4⟩:=n
 exact h' _ Hi' H' (Same.refl _) (R.setOwn e n1 n3 n2 n4)
theorem tL {i:Nat} {o:Expr} {apos cpos:Pos} (ho:PE X o (zCK i)) (he:PEd X G e f)
  (hbase:attributeBase o "append" X.env (eval o X.env)=eval o X.env:=by rfl)
  (hfew:((backTo cpos (starEach [e] X.env)).all (fun x=>!x.1) && (backToKw cpos (keywordEach [] X.env)).all (fun x=>x.1.isSome)
   && decide ([e].length+([]:List Keyword).length+(if ([]:List Keyword).isEmpty then 0 else 1) < 30))=true:=by rfl)
  (hline:(apos.endLine==cpos.line)=true:=by rfl) (hs:starEach [e] X.env=(false,eval e X.env)::starEach [] X.env:=by rfl)
  (hsw:swapsWith (.Call (.Attribute o "append" apos) [e] [] cpos) none pos.line X.env=pure false:=by rfl):
  PSd X G (.Expr (.Call (.Attribute o "append" apos) [e] [] cpos) pos) (zBA i f):=
 PS.wk (zAR (zLS PySem.F.plainAttrs_list PySem.F.slot_list_append PySem.F.type_list_append qQ ho (iX he oM hs) hbase hfew hline hs) hsw) fun E σ H q=>by
 obtain ⟨ρ,Hi,R,h⟩:=q
 unfold zBA at h
 cases z:ρ[i]? with
 | none=>rw [z] at h;exact h.elim
 | some s=>
  rw [z] at h
  cases s with
  | own ds=>
   obtain ⟨a,xs,p,h1,h2,h3,h4⟩:=R.slot i _ z
   refine ⟨.ref a,p,.inl ⟨rfl,xs,SqL.of h1⟩,?_⟩
   refine ⟨ρ,Hi,R,lS R h fun d Hi' H' _ e h' v r=>?_⟩
   have R':=R.grow e
   obtain ⟨g1,g2⟩:=e.out h1 h2
   by_cases hz:ds.length < 16777216
   ·rw [if_pos hz] at h'
    refine ⟨a,xs,v,rfl,rfl,g1,by rw [h4.length];exact hz,?_⟩
    exact h' σ Hi' _ (Same.refl _) (R'.write z p ((h4.mono e.i).append (.cons r .nil)))
   ·rw [if_neg hz] at h';exact h'.elim
  | un=>exact h.elim
  | val d=>exact h.elim
  | exc c=>exact h.elim
  | tab T=>exact h.elim
theorem zLP {i:Nat} {o:Expr} {apos cpos:Pos} (ho:PE X o (zCK i))
  (hbase:attributeBase o "pop" X.env (eval o X.env)=eval o X.env:=by rfl) (hline:(apos.endLine==cpos.line)=true:=by rfl)
  (hsw:swapsWith (.Call (.Attribute o "pop" apos) [] [] cpos) none pos.line X.env=pure false:=by rfl):
  PSd X G (.Expr (.Call (.Attribute o "pop" apos) [] [] cpos) pos) (zJJ i):=
 PS.wk (zAR (zKm PySem.F.plainAttrs_list PySem.F.slot_list_pop PySem.F.type_list_pop zLu ho hbase hline) hsw) fun E σ H q=>by
 obtain ⟨ρ,Hi,R,h⟩:=q
 unfold zJJ at h
 cases z:ρ[i]? with
 | none=>rw [z] at h;exact h.elim
 | some s=>
  rw [z] at h
  cases s with
  | own ds=>
   obtain ⟨a,xs,p,h1,h2,h3,h4⟩:=R.slot i _ z
   refine ⟨.ref a,p,.inl ⟨rfl,xs,SqL.of h1⟩,?_⟩
   have h:Fin X G Hi E (if ds.length=0 then Res.no else Res.ok (Fl.nx (ρ.set i (.own ds.dropLast)))):=h
   by_cases hz:ds.length=0
   ·rw [if_pos hz] at h;exact h.elim
   ·rw [if_neg hz] at h
    have hl:=h4.length
    refine ⟨a,xs,xs[xs.length - 1]'(by omega),rfl,rfl,h1,List.getElem?_eq_getElem (by omega),?_⟩
    exact h σ Hi _ (Same.refl _) (R.write z p h4.dropLast)
  | un=>exact h.elim
  | val d=>exact h.elim
  | exc c=>exact h.elim
  | tab T=>exact h.elim
theorem zLG {i:Nat} {o k:Expr} {fk:Ev} {tpos:Pos} (ho:PE X o (zCK i)) (hk:PEd X G k fk) (he:PEd X G e f) (hs:swapsWithSole [.Subscript o k tpos] e pos.line X.env=pure false:=by rfl) (hw:swappedStores [.Subscript o k tpos] e X.env=pure none:=by rfl)
  (h1:(assignEach [.Subscript o k tpos] X.env).map (·.2)=[assign (.Subscript o k tpos) X.env]:=by rfl)
  (ha:∀ v,assign (.Subscript o k tpos) X.env v=(do
   let ov <-holding [v] (eval o X.env)
   let iv <-holding [v,ov] (eval k X.env)
   standAt tpos
   holding [v,ov,iv] (setItem ov iv v)
   release [v,ov,iv] []):=by intro _;rfl):PSd X G (.Assign [.Subscript o k tpos] e pos) (zLD i fk f):=
 PS.wk (zKb he (zKW ho hk zFS ha) hs hw h1) fun E σ H q=>by
 obtain ⟨ρ,Hi,R,h⟩:=q
 refine ⟨ρ,Hi,R,lS R h fun d Hi1 H1 _ e1 h1 v r=>?_⟩
 have R1:=R.grow e1
 cases z:ρ[i]? with
 | none=>rw [z] at h1;exact h1.elim
 | some s=>
  rw [z] at h1
  cases s with
  | own ds=>
   obtain ⟨a,xs,p,g1,g2,g3,g4⟩:=R1.slot i _ z
   refine ⟨.ref a,p,?_⟩
   refine ⟨ρ,Hi1,R1,lS R1 h1 fun j Hi2 H2 _ e2 h2 w rw'=>?_⟩
   have R2:=R1.grow e2
   obtain ⟨k1,k2⟩:=e2.out g1 g2
   cases j with
   | int j=>
    have hl:=g4.length
    have h2':Fin X G Hi2 E (if 0<=j/\j < ds.length then Res.ok (.nx (ρ.set i (.own (ds.set j.toNat d)))) else if -(ds.length:Int)<=j/\j < 0 then .ok (.nx (ρ.set i (.own (ds.set (j+ds.length).toNat d)))) else .no):=h2
    by_cases c1:0<=j/\j < ds.length
    ·rw [if_pos c1] at h2'
     refine ⟨a,xs,j,j.toNat,rfl,rw'.intI,k1,by unfold ixN;rw [if_pos c1.1,if_pos (by omega)],?_⟩
     exact h2' σ Hi2 _ (Same.refl _) (R2.write z p ((g4.mono e2.i).set (r.mono e2.i) j.toNat))
    ·rw [if_neg c1] at h2'
     by_cases c2:-(ds.length:Int)<=j/\j < 0
     ·rw [if_pos c2] at h2'
      refine ⟨a,xs,j,(j+ds.length).toNat,rfl,rw'.intI,k1,by unfold ixN;rw [if_neg (by omega),if_pos (by omega),hl],?_⟩
      exact h2' σ Hi2 _ (Same.refl _) (R2.write z p ((g4.mono e2.i).set (r.mono e2.i) (j+ds.length).toNat))
     ·rw [if_neg c2] at h2';exact h2'.elim
   | _=>exact h2.elim
  | un=>exact h1.elim
  | val d=>exact h1.elim
  | exc c=>exact h1.elim
  | tab T=>exact h1.elim
theorem zFW {i:Nat} {op:Operator} {o:Op2} {r:Int->Int->Int} {pos':Pos} (hN:X.N.Nodup) (hi:X.N[i]?=some x) (hx:Loc X.env.scope x) (he:PEd X G e f) (ho:PIp X op (ipI r)) (hr:∀ a b d,o a b=.ok d->∃ i j,a=.int i/\b=.int j/\d=.int (r i j)) (hn:∀ a b c,o a b≠.err c)
  (hf:X.fn x=true∨X.env.scope.names.lookup x=some .local:=by first | exact .inl rfl | exact .inr rfl | assumption):PSd X G (.AugAssign (.Name x pos') op e pos) (zGK i o f):=PS.wk (zKX hN hi hx he ho hf) fun E σ H q=>by
 obtain ⟨ρ,Hi,R,h⟩:=q
 unfold zGK at h
 cases z:ρ[i]? with
 | none=>rw [z] at h;exact h.elim
 | some s=>
  rw [z] at h
  cases s with
  | val d=>
   obtain ⟨v,p,rv⟩:=R.slot i _ z
   refine ⟨v,p,ρ,Hi,R,lS R h fun d' Hi' H' _ e h' w rw'=>?_⟩
   cases q:o d d' with
   | no=>rw [q] at h';exact h'.elim
   | err c=>exact absurd q (hn _ _ _)
   | ok u=>
    rw [q] at h'
    obtain ⟨i',j',rfl,rfl,rfl⟩:=hr _ _ _ q
    exact ⟨i',j',rv.intI,rw'.intI,h' _ Hi' H' (Same.refl _) ((R.grow e).set (.int _))⟩
  | un=>exact h.elim
  | own ds=>exact h.elim
  | exc c=>exact h.elim
  | tab T=>exact h.elim
def tGv (X:Cx) (G:Gx) (g:Gv):TG:=fun v σ H Q=>∃ d ρ Hi,IsD X.K Hi v d/\jF X G Hi H σ ρ/\∃ ρ',g d ρ=.ok ρ'/\∀ σ' Hi' H',Same Hi Hi'->jF X G Hi' H' σ' ρ'->Q σ' H'
@[irreducible] def PGd (X:Cx) (G:Gx) (e:Expr) (g:Gv):Prop:=PG X e (tGv X G g)
unseal PGd
theorem eS {i:Nat} (hN:X.N.Nodup) (hi:X.N[i]?=some x) (hx:Loc X.env.scope x) (hf:X.fn x=true∨X.env.scope.names.lookup x=some .local:=by first | exact .inl rfl | exact .inr rfl | assumption):PGd X G (.Name x pos) (gName i):=
 fun pins s σ H v u Q I r q=>wW hN hi hx hf pins s σ H v u Q I r (by
  obtain ⟨d,ρ,Hi,rd,R,ρ',e,k⟩:=q
  cases e
  exact k _ Hi H (Same.refl _) (R.set rd))
def zNt (X:Cx) (G:Gx) (g:List D->Rho->Res Rho):TGs:=fun vs σ H Q=>∃ ds ρ Hi,IsDs X.K Hi vs ds/\jF X G Hi H σ ρ/\∃ ρ',g ds ρ=.ok ρ'/\∀ σ' Hi' H',Same Hi Hi'->jF X G Hi' H' σ' ρ'->Q σ' H'
@[irreducible] def gW (X:Cx) (G:Gx) (es:List Expr) (g:List D->Rho->Res Rho):Prop:=PGs X es (zNt X G g)
unseal gW
theorem zKB:gW X G [] zGA:=fun pins s σ H vs us Q I r q=>zEs pins s σ H vs us Q I r (by
  obtain ⟨ds,ρ,Hi,rd,R,ρ',e,k⟩:=q
  cases ds with
  | nil=>cases rd;cases e;exact ⟨rfl,k _ Hi H (Same.refl _) R⟩
  | cons d ds=>cases e)
theorem zDR {g:Gv} {r:List D->Rho->Res Rho} (h1:PGd X G e g) (h2:gW X G es r) (hs:(assignEach (e::es) X.env).map (·.2)=assign e X.env::(assignEach es X.env).map (·.2):=by rfl):gW X G (e::es) (sT g r):=
 fun pins s σ H vs us Q I rr q=>wV h1 h2 hs pins s σ H vs us Q I rr (by
  obtain ⟨ds,ρ,Hi,rd,R,ρ',e,k⟩:=q
  cases ds with
  | nil=>cases e
  | cons d ds=>
   cases rd with
   | cons rd rds=>
    refine ⟨_,_,rfl,d,ρ,Hi,rd,R,?_⟩
    have e':(g d ρ).bind (fun ρ'=>r ds ρ')=.ok ρ':=e
    cases z:g d ρ with
    | no=>rw [z] at e';cases e'
    | err c=>rw [z] at e';cases e'
    | ok ρ1=>
     rw [z] at e'
     exact ⟨ρ1,rfl,fun σ1 Hi1 H1 s1 R1=>⟨ds,ρ1,Hi1,rds.mono s1,R1,ρ',e',fun σ2 Hi2 H2 s2 R2=>k σ2 Hi2 H2 (s1.trans s2) R2⟩⟩)
theorem zLY {k:Nat} {r:List D->Rho->Res Rho} {n:Nat} (hc:X.calm=true) (h:gW X G es r) (hr:∀ ds ρ ρ',r ds ρ=.ok ρ'->ds.length=n) (hn:(assignEach es X.env).length=n:=by rfl) (hst:(assignEach es X.env).findIdx? (·.1)=none:=by rfl):PGd X G (.Tuple es k pos) (zGW r):=
 fun pins s σ H v u Q I rr q=>zGU hc h hn hst pins s σ H v u Q I rr (by
  obtain ⟨d,ρ,Hi,rd,R,ρ',e,kk⟩:=q
  cases d with
  | tup ds=>
   obtain ⟨a,xs,rfl,h1,h2⟩:=rd.tupI
   exact ⟨a,xs,rfl,cD R.s h1,by rw [h2.length];exact hr ds ρ ρ' e,ds,ρ,Hi,h2,R,ρ',e,kk⟩
  | _=>cases e)
def tU (K:PySem.W.Frag) (Hi:Hp) (J:It) (ds:List D):Prop:=∀ (Hi1 H1:Hp),Same Hi Hi1->Same Hi1 H1->∀ i,
 (ds.length<=i->J.stop i H1)/\∀ d,ds[i]?=some d->J.go i H1/\∀ x H2,J.yld i H1 x H2->∃ Hi2,Ext Hi1 H1 Hi2 H2/\IsD K Hi2 x d
def tIv (X:Cx) (G:Gx) (f:Fv):TI:=fun σ H R=>∃ ρ Hi,jF X G Hi H σ ρ/\Out G Hi H (f ρ) fun ds Hi' H'=>∀ J,tU X.K Hi' J ds->R J H'
@[irreducible] def PId (X:Cx) (G:Gx) (tg e:Expr) (f:Fv):Prop:=PI X tg e (tIv X G f)
unseal PId
theorem PI.wk {tg:Expr} {t t':TI} (h:PI X tg e t) (w:∀ σ H Q,t' σ H Q->t σ H Q):PI X tg e t':=fun pins s σ H Q I q=>h pins s σ H Q I (w σ H Q q)
theorem zHc {g:Gv} {J:It} {ds:List D} {Hi1 H1:Hp} {σ:St} {ρ:Rho} {E:Ends} (hge:∀ d ρ c,g d ρ≠.err c) (R1:jF X G Hi1 H1 σ ρ) (h1:Fin X G Hi1 E (fP g sa ds ρ)) (gv:tU X.K Hi1 J ds):zMT (fun _ _ R=>R J H1) (tGv X G g) (tS X G sa) E σ H1:=by
 refine ⟨fun i m σ' H'=>m=ds.length - i/\∃ ρ' Hi',Same Hi1 Hi'/\jF X G Hi' H' σ' ρ'/\Fin X G Hi' E (fP g sa (ds.drop i) ρ'),⟨_,rfl,ρ,Hi1,Same.refl _,R1,h1⟩,?_⟩
 rintro i m σ' H' ⟨rfl,ρ',Hi',s',R',h'⟩
 obtain ⟨w1,w2⟩:=gv Hi' H' s' R'.s i
 by_cases hl:i < ds.length
 ·obtain ⟨d,hd⟩:∃ d,ds[i]?=some d:=⟨_,List.getElem?_eq_getElem hl⟩
  obtain ⟨go,yl⟩:=w2 d hd
  have e3:ds.drop i=d::ds.drop (i+1):=by
   rw [List.getElem?_eq_getElem hl] at hd
   cases hd
   exact List.drop_eq_getElem_cons hl
  rw [e3] at h'
  refine .inr ⟨go,fun σ2 H2=>∃ ρ2 Hi2,Same Hi1 Hi2/\jF X G Hi2 H2 σ2 ρ2/\Fin X G Hi2 E (fP g sa (ds.drop (i+1)) ρ2),fun σ2 H2 z=>⟨ds.length - (i+1),by omega,rfl,z⟩,fun x H2 y=>?_⟩
  obtain ⟨Hi2,e2,r2⟩:=yl x H2 y
  have R2:=R'.grow e2
  have h2:Fin X G Hi2 E ((g d ρ').bind fun ρ1=>(sa ρ1).bind fun f=>match f with
   | .nx ρ2=>fP g sa (ds.drop (i+1)) ρ2
   | .ctn ρ2=>fP g sa (ds.drop (i+1)) ρ2
   | .brk ρ2=>.ok (.nx ρ2)
   | .ret r=>.ok (.ret r)):=Fin.mono h' e2.i
  cases z:g d ρ' with
  | no=>rw [z] at h2;exact h2.elim
  | err c=>exact absurd z (hge _ _ _)
  | ok ρ1=>
   rw [z] at h2
   refine ⟨d,ρ',Hi2,r2,R2,ρ1,z,fun σ3 Hi3 H3 s3 R3=>⟨ρ1,Hi3,R3,?_⟩⟩
   have h3:=Fin.mono h2 s3
   have sm:Same Hi1 Hi3:=(s'.trans e2.i).trans s3
   simp only [Res.bind] at h3
   cases zb:sa ρ1 with
   | no=>rw [zb] at h3;exact h3.elim
   | err c=>rw [zb] at h3;exact h3
   | ok fl=>
    rw [zb] at h3
    cases fl with
    | nx ρ2=>exact fun σ4 Hi4 H4 s4 R4=>⟨ρ2,Hi4,sm.trans s4,R4,Fin.mono (show Fin X G Hi3 E (fP g sa (ds.drop (i+1)) ρ2) from h3) s4⟩
    | ctn ρ2=>exact fun σ4 Hi4 H4 s4 R4=>⟨ρ2,Hi4,sm.trans s4,R4,Fin.mono (show Fin X G Hi3 E (fP g sa (ds.drop (i+1)) ρ2) from h3) s4⟩
    | brk ρ2=>exact h3
    | ret r=>cases r<;>exact h3
 ·rw [List.drop_eq_nil_of_le (by omega)] at h'
  exact .inl ⟨w1 (by omega),h' σ' Hi' H' (Same.refl _) R'⟩
theorem kQ {tg iter:Expr} {body:List Stmt} {it:Fv} {g:Gv} (hp:PassesOwn (model X.prog X.w) X.A X.env X.xe) (hc:X.calm=true) (hi:PId X G tg iter it) (hg:PGd X G tg g) (hge:∀ d ρ c,g d ρ≠.err c) (hb:eV X G body sa)
  (hs:∀ x,foldedSetIterable iter X.env x=pure x:=by intro _;rfl):PSd X G (.For tg iter body [] pos) (xA it g sa):=PS.wk (zEH hp hc hi hg hb hs) fun E σ H q=>by
 obtain ⟨ρ,Hi,R,h⟩:=q
 exact ⟨ρ,Hi,R,lS R h fun ds Hi1 H1 _ e1 h1 J gv=>zHc hge (R.grow e1) h1 gv⟩
theorem zFe {c:Expr} {body:List Stmt} (hp:PassesOwn (model X.prog X.w) X.A X.env X.xe) (hc:PTd X G c t) (hb:eV X G body sa):PSd X G (.While c body [] pos) (eN t sa):=PS.wk (zFM hp hc hb) fun E σ H q=>by
 obtain ⟨ρ,Hi,R,h⟩:=q
 have hn:eN t sa ρ≠.no:=fun z=>by rw [z] at h;exact h
 obtain ⟨n,en⟩:=lM hn
 rw [en] at h
 refine ⟨fun m σ' H'=>∃ ρ' Hi',Same Hi Hi'/\jF X G Hi' H' σ' ρ'/\Fin X G Hi' E (wh t sa m ρ'),⟨n,ρ,Hi,Same.refl _,R,h⟩,?_⟩
 rintro m σ' H' ⟨ρ',Hi',s',R',h'⟩
 cases m with
 | zero=>exact h'.elim
 | succ m=>
  rw [wh] at h'
  refine ⟨ρ',Hi',R',lS R' h' fun c Hi1 H1 _ e1 h1=>?_⟩
  have R1:=R'.grow e1
  cases c with
  | false=>exact h1 σ' Hi1 H1 (Same.refl _) R1
  | true=>
   refine ⟨fun σ2 H2=>∃ ρ2 Hi2,Same Hi Hi2/\jF X G Hi2 H2 σ2 ρ2/\Fin X G Hi2 E (wh t sa m ρ2),fun σ2 H2 z=>⟨m,by omega,z⟩,ρ',Hi1,R1,?_⟩
   have sm:Same Hi Hi1:=s'.trans e1.i
   simp only [if_true] at h1
   cases zb:sa ρ' with
   | no=>rw [zb] at h1;exact h1.elim
   | err c=>rw [zb] at h1;exact h1
   | ok fl=>
    rw [zb] at h1
    cases fl with
    | nx ρ2=>exact fun σ4 Hi4 H4 s4 R4=>⟨ρ2,Hi4,sm.trans s4,R4,Fin.mono (show Fin X G Hi1 E (wh t sa m ρ2) from h1) s4⟩
    | ctn ρ2=>exact fun σ4 Hi4 H4 s4 R4=>⟨ρ2,Hi4,sm.trans s4,R4,Fin.mono (show Fin X G Hi1 E (wh t sa m ρ2) from h1) s4⟩
    | brk ρ2=>exact h1
    | ret r=>cases r<;>exact h1
theorem zEe {K:PySem.W.Frag} {Hi:Hp} {a:Addr} {xs:List V} {ds:List D} (h:SqT K Hi a xs) (hs:IsDs K Hi xs ds):tU K Hi (Itt K a) ds:=fun Hi1 H1 s1 s2 i=>by
 have h1:=cD (s1.trans s2) h
 refine ⟨fun hl=>⟨xs,h1,by rw [hs.length];exact hl⟩,fun d hd=>?_⟩
 obtain ⟨v,hv,r⟩:=hs.at hd
 refine ⟨⟨xs,v,h1,hv⟩,fun x H2 y=>?_⟩
 obtain ⟨e,y⟩:=y
 subst e
 have:=y xs h1
 rw [hv] at this
 cases this
 exact ⟨Hi1,Ext.refl s2,r.mono s1⟩
theorem zIR {lo c:Int} {n i:Nat} {d:D} (h:(rng lo n c)[i]?=some d):i < n/\d=.int (lo+(i:Int) * c):=by
 unfold rng at h
 rw [List.getElem?_map] at h
 by_cases hl:i < n
 ·rw [List.getElem?_range hl] at h;cases h;exact ⟨hl,rfl⟩
 ·rw [List.getElem?_eq_none (by rw [List.length_range];omega)] at h;cases h
theorem zIn (lo c:Int) (n:Nat):(rng lo n c).length=n:=by unfold rng;rw [List.length_map,List.length_range]
theorem zB {K:PySem.W.Frag} {Hi:Hp} (lo:Int) (n:Nat):tU K Hi (Itr lo n) (rng lo n 1):=fun Hi1 H1 s1 s2 i=>by
 refine ⟨fun hl=>by rw [zIn] at hl;exact hl,fun d hd=>?_⟩
 obtain ⟨h1,rfl⟩:=zIR hd
 refine ⟨h1,fun x H2 y=>?_⟩
 obtain ⟨e,y⟩:=y
 subst e y
 rw [Int.mul_one]
 exact ⟨Hi1,Ext.refl s2,.int _⟩
theorem zKT {tg:Expr} (hg:Gl X "range") (hm:X.mg "range" = none) (ha:PAd X G [a] fs) (hs:starEach [a] X.env=[(false,eval a X.env)]:=by rfl):PId X G tg (.Call (.Name "range" p) [a] [] pos) (zDV fs):=PI.wk (zDS hg hm ha hs) fun σ H Q q=>by
 obtain ⟨ρ,Hi,R,ou⟩:=q
 refine zFo R ou fun vs ds Hi1 H1 e1 R1 r1 o1=>?_
 split at o1
 ·rename_i j
  obtain ⟨v,rfl,h⟩:=r1.one
  by_cases hz:-(2^62)<=j/\j < 2^62
  ·rw [if_pos hz] at o1
   exact ⟨j,by rw [h.intI],hz.1,hz.2,o1.here R1.s _ (zB 0 j.toNat)⟩
  ·rw [if_neg hz] at o1;exact o1.elim
 ·exact o1.elim
theorem zEi {tg:Expr} (hg:Gl X "range") (hm:X.mg "range" = none) (ha:PAd X G [a,b] fs) (hs:starEach [a,b] X.env=[(false,eval a X.env),(false,eval b X.env)]:=by rfl) (hs2:starEach [b] X.env=[(false,eval b X.env)]:=by rfl):PId X G tg (.Call (.Name "range" p) [a,b] [] pos) (zAK fs):=PI.wk (zEL hg hm ha hs hs2) fun σ H Q q=>by
 obtain ⟨ρ,Hi,R,ou⟩:=q
 refine zFo R ou fun vs ds Hi1 H1 e1 R1 r1 o1=>?_
 split at o1
 ·rename_i i j
  obtain ⟨v,w,rfl,h,h'⟩:=r1.two
  by_cases hz:-(2^62)<=i/\i < 2^62/\-(2^62)<=j/\j < 2^62
  ·rw [if_pos hz] at o1
   exact ⟨i,j,by rw [h.intI,h'.intI],hz,o1.here R1.s _ (zB i (j - i).toNat)⟩
  ·rw [if_neg hz] at o1;exact o1.elim
 ·exact o1.elim
end
end L3
namespace L3
open PySem PySem.Spec PyProof.Rows L2
unseal PEd PEf PTd PWd PAd PSd eV POd PGd gW PId
structure Fn (K:PySem.W.Frag) (mg:Str->Option Value) (x:Str) (st:Stmt) (ps:List Str) (f:Addr) (fd:FuncData):Prop where
 fn:Fun K x x st f fd
 bd:xG K fd ps []
 kp:PySem.W.keepIn K (.ref f)=true
 mg:mg x=some (.ref f)
def XE (X:Cx) (G:Gx):XK:=fun cls _ H=>∃ c,X.mg c=some cls/\G.E c H
def mZ (K:PySem.W.Frag) (mg:Str->Option Value) (P:Addr):Prop:=∃ f oc od fd osl c,mg "ranked" = some (.ref f)/\K.lookup f=some ⟨oc,od,.func fd,osl⟩/\fd.code=.ref c/\∀ h,K.In h->PySem.W.CodeHd h c P
def TB (K:PySem.W.Frag) (mg:Str->Option Value) (Hi H:Hp):Prop:=∀ P,mZ K mg P->zA P H/\Hi P=none
theorem TB.ext {K:PySem.W.Frag} {mg:Str->Option Value} {Hi H Hi' H':Hp} (t:TB K mg Hi H) (e:Ext Hi H Hi' H'):TB K mg Hi' H':=fun P h=>⟨e.h.t P (t P h).1,by
 cases z:Hi' P with
 | none=>rfl
 | some o=>
  obtain ⟨⟨ps,q,_⟩,n⟩:=t P h
  have:=e.n P n (by rw [z];exact fun w=>by cases w)
  rw [q] at this;cases this⟩
structure Good (X:Cx) (G:Gx) (k:Nat):Prop where
 calm:X.calm=true
 room:Room k X.A
 pass:zBL (CX1 X.prog X.w) X (XE X G)
 own:PassesOwn (model X.prog X.w) X.A X.env X.xe
 tb:TB X.K X.mg G.Bi G.B
def zCW (X:Cx) (G:Gx):Prop:=∀ (pins:List (Addr×Obj)) (σ:St) (H:Hp) (s s':Shared) (ea:Addr) (cls:Value) (vs:List Value),Inv X pins σ H s->Heap.MadeExcOf s.heap s'.heap ea cls vs->s'.os=s.os->AllBare s'.gens->XE X G cls none H->X.xe (.ref ea) s'
def spM (K:PySem.W.Frag) (mg:Str->Option Value) (p:Nat) (m:Mir):Sp:=fun vs H Q E=>vs.length=p/\∃ Bi ds,TB K mg Bi H/\Same Bi H/\IsDs K Bi vs ds/\match m ds with
 | .ok (.v d)=>∀ v Hi' H',Ext Bi H Hi' H'->IsD K Hi' v d->Q v H'
 | .ok (.f es)=>∀ a Hi' H',Ext Bi H Hi' H'->zFA K H Hi' H' a es->Q (.ref a) H'
 | .err c=>∀ C,mg c=some C->∀ Hi' H',Ext Bi H Hi' H'->E C none H'
 | .no=>False
structure CanM (P:Program) (w:World) (K:PySem.W.Frag) (mg:Str->Option Value) (base:Heap) (k:Nat) (x:Str) (ps:List Str) (m:Mir):Prop where
 ex:∃ f fd,FnOk P w K mg base (CX1 P w) k f fd ps (spM K mg ps.length m)/\xG K fd ps []/\PySem.W.keepIn K (.ref f)=true/\mg x=some (.ref f)
 ln:∀ ds,m ds≠.no->ds.length=ps.length
theorem Good.u {X:Cx} {G:Gx} {k:Nat} (W:Good X G k):X.A.units+64 < cLine:=W.room.units
theorem CanM.mono {P:Program} {w:World} {K:PySem.W.Frag} {mg:Str->Option Value} {base:Heap} {j k:Nat} {x:Str} {ps:List Str} {m:Mir} (c:CanM P w K mg base j x ps m) (h:j<=k):CanM P w K mg base k x ps m:=by
 obtain ⟨⟨f,fd,F,r⟩,l⟩:=c
 exact ⟨⟨f,fd,F.mono h,r⟩,l⟩
section
variable {X:Cx} {G:Gx} {a b e:Expr} {es:List Expr} {pos p:Pos} {f g:Ev} {fs gs:Fv} {t u:Tv} {x:Str} {st:Stmt} {rest:List Stmt} {sa sb:Sv} {k:Nat} {ps:List Str} {m:Mir}
theorem zJs {ps:List Str} (tb:TB X.K X.mg G.Bi G.B) (ln:∀ ds,m ds≠.no->ds.length=ps.length):∀ σ H Q,tD X G (bB m fs) σ H Q->zHY (spM X.K X.mg ps.length m) [] (XE X G) (tAs X G fs) σ H Q:=fun σ H Q q=>by
 obtain ⟨ρ,Hi,R,ou⟩:=q
 refine zFo R ou fun vs ds Hi1 H1 e1 R1 r1 o1=>?_
 rw [List.append_nil]
 have hm:m ds≠.no:=fun z=>by rw [z] at o1;exact o1
 refine ⟨by rw [r1.length];exact ln ds hm,Hi1,ds,tb.ext R1.ext,R1.s,r1,?_⟩
 cases z:m ds with
 | no=>exact absurd z hm
 | err c=>rw [z] at o1;exact fun C hC Hi2 H2 e2=>⟨c,hC,o1 Hi2 H2 e2⟩
 | ok r=>
  rw [z] at o1
  cases r with
  | v d=>exact fun v Hi2 H2 e2 r2=>o1 Hi2 H2 e2 v r2
  | f ds=>
   intro a Hi2 H2 e2 n
   obtain ⟨n1,n2,xs,n3,n4⟩:=n
   exact o1 _ _ (e2.hold n1 n3 n2) (.ref a) (.lst (SqL.of aW) (n4.mono (cU n2 _)))
theorem aM (W:Good X G k) (c:CanM X.prog X.w X.K X.mg X.base k x ps m) (hg:Gl X x) (ha:PAd X G (e::es) fs)
  (hdb:(x==("__debug__" : Str))=false:=by decide) (he:starEach (e::es) X.env=(false,eval e X.env)::starEach es X.env:=by rfl) (hpl:(backTo pos (starEach es X.env)).any (·.1)=false:=by rfl):
  PEd X G (.Call (.Name x p) (e::es) [] pos) (bB m fs):=by
 obtain ⟨⟨f,fd,F,b,kp,hm⟩,ln⟩:=c
 exact PE.wk (zAj F W.room hg hm kp b .nil W.pass ha hdb he hpl) (zJs W.tb ln)
theorem zIt {ps:List Str} (tb:TB X.K X.mg G.Bi G.B) (ln:∀ ds,m ds≠.no->ds.length=ps.length):∀ σ H Q,tF X G (eI m fs) σ H Q->zHY (spM X.K X.mg ps.length m) [] (XE X G) (tAs X G fs) σ H Q:=fun σ H Q q=>by
 obtain ⟨ρ,Hi,R,ou⟩:=q
 refine zFo R ou fun vs ds Hi1 H1 e1 R1 r1 o1=>?_
 rw [List.append_nil]
 have hm:m ds≠.no:=fun z=>by rw [z] at o1;exact o1
 refine ⟨by rw [r1.length];exact ln ds hm,Hi1,ds,tb.ext R1.ext,R1.s,r1,?_⟩
 cases z:m ds with
 | no=>exact absurd z hm
 | err c=>rw [z] at o1;exact fun C hC Hi2 H2 e2=>⟨c,hC,o1 Hi2 H2 e2⟩
 | ok r=>
  rw [z] at o1
  cases r with
  | v d=>exact o1.elim
  | f ds=>exact fun a Hi2 H2 e2 n=>o1 Hi2 H2 e2 a ⟨e1.h.none n.1,n.2⟩
theorem bQ (W:Good X G k) (c:CanM X.prog X.w X.K X.mg X.base k x ps m) (hg:Gl X x) (ha:PAd X G (e::es) fs)
  (hdb:(x==("__debug__" : Str))=false:=by decide) (he:starEach (e::es) X.env=(false,eval e X.env)::starEach es X.env:=by rfl) (hpl:(backTo pos (starEach es X.env)).any (·.1)=false:=by rfl):
  PEf X G (.Call (.Name x p) (e::es) [] pos) (eI m fs):=by
 obtain ⟨⟨f,fd,F,b,kp,hm⟩,ln⟩:=c
 exact PE.wk (zAj F W.room hg hm kp b .nil W.pass ha hdb he hpl) (zIt W.tb ln)
theorem cG {d:D} (hg:Gl X x) (h:∃ v u',X.mg x=some u'/\cQ v u'/\IsD X.K (fun _=>none) v d) (hdb:(x==("__debug__" : Str))=false:=by decide):PEd X G (.Name x pos) (eC d):=by
 obtain ⟨v,u',hm,r,hd⟩:=h
 exact aV (zDp hg hm r hdb) fun H=>hd.mono fun b o z=>by cases z
end
abbrev BX (P:Program) (w:World) (K:PySem.W.Frag) (mg:Str->Option Value) (base:Heap) (N:List Str) (x:Str) (st:Stmt) (f:Addr) (cdv:Value) (A:Around) (outer:List Env) (s:Shared) (H:Hp) (E:XK):Cx:=
 zCJ (CX1 P w) P w K mg base N x (aJ st) f cdv A outer s H E
theorem zX {K:PySem.W.Frag} {mg:Str->Option Value} {Bi H:Hp} {N:List Str} {vs:List V} {ds:List D} (s:Same Bi H) (h:IsDs K Bi vs ds):Rel K mg H Bi Bi H (L2.start N vs) (L3.start N.length ds) where
 len:=by
  unfold L2.start L3.start
  rw [List.length_append,List.length_append,List.length_map,List.length_map,List.length_replicate,List.length_replicate,h.length]
 ext:=Ext.refl s
 slot:=fun i sl e=>by
  unfold L3.start at e
  by_cases hi:i < ds.length
  ·rw [List.getElem?_append_left (by rw [List.length_map];exact hi),List.getElem?_map] at e
   obtain ⟨d,hd⟩:∃ d,ds[i]?=some d:=⟨_,List.getElem?_eq_getElem hi⟩
   rw [hd] at e;cases e
   obtain ⟨v,hv,r⟩:=h.at hd
   refine ⟨v,?_,r⟩
   unfold L2.start
   rw [List.getElem?_append_left (by rw [List.length_map,h.length];exact hi),List.getElem?_map,hv]
   rfl
  ·rw [List.getElem?_append_right (by rw [List.length_map];omega),List.getElem?_replicate] at e
   split at e
   ·cases e;trivial
   ·cases e
 dist:=fun i j a es fs e _ _ _=>by
  exfalso
  unfold L3.start at e
  by_cases hi:i < ds.length
  ·rw [List.getElem?_append_left (by rw [List.length_map];exact hi),List.getElem?_map] at e
   cases z:ds[i]? with
   | none=>rw [z] at e;cases e
   | some d=>rw [z] at e;cases e
  ·rw [List.getElem?_append_right (by rw [List.length_map];omega),List.getElem?_replicate] at e
   split at e<;>cases e
section
variable {P:Program} {w:World} {K:PySem.W.Frag} {mg:Str->Option Value} {base:Heap} {N ps:List Str} {x:Str} {st:Stmt} {f:Addr} {fd:FuncData} {k:Nat} {b:Sv}
theorem zDX {cdv:Value} {A:Around} {outer:List Env} {s:Shared} {H Bi:Hp} {E:XK} (hr:Room k (A.deeper (envOfC x (aJ st) s.heap.objs.size f cdv))) (tb:TB K mg Bi H):
  Good (BX P w K mg base N x st f cdv A outer s H E) ⟨H,Bi,fun c H'=>∀ C,mg c=some C->E C none H'⟩ k where
 calm:=rfl
 room:=hr
 pass:=zMf fun c H' q=>by
  obtain ⟨c',h1,h2⟩:=q
  exact h2 c h1
 own:=PassesOwn.leaving
 tb:=tb
theorem zBN {cdv:Value} {A:Around} {outer:List Env} {s:Shared} {H Bi:Hp} {E:XK}:
  zCW (BX P w K mg base N x st f cdv A outer s H E) ⟨H,Bi,fun c H'=>∀ C,mg c=some C->E C none H'⟩:=fun pins σ H1 s1 s' ea cls vs I hx hos hg q=>by
 obtain ⟨c',h1,h2⟩:=q
 exact zAr I hx hos hg (h2 cls h1)
theorem zKy (F:Fn K mg x st ps f fd) (S:FnScope N ps (aJ st))
  (h:∀ (cdv:Value) (A:Around) (outer:List Env) (s:Shared) (H:Hp) (E:XK) (G:Gx),Good (BX P w K mg base N x st f cdv A outer s H E) G k->zCW (BX P w K mg base N x st f cdv A outer s H E) G->eV (BX P w K mg base N x st f cdv A outer s H E) G (eM st) b):
  FnOk P w K mg base (CX1 P w) (k+1) f fd ps (spM K mg ps.length (fn ps.length N.length b)):=by
 obtain ⟨oc,od,kV,doc,pm,an,cdv,ct,osl,rfl,lk,hcd⟩:=F.fn.ex
 refine zJC lk hcd S (fun vs H Q E h=>h.1) fun A outer s H vs Q E hr hsp=>?_
 obtain ⟨hl,Bi,ds,tb,sm,hd,hq⟩:=hsp
 have hg:=zDX (P:=P) (w:=w) (K:=K) (mg:=mg) (base:=base) (N:=N) (outer:=outer) (H:=H) (Bi:=Bi) (E:=E) hr tb
 refine ⟨_,h cdv A outer s H E _ hg zBN,L3.start N.length ds,Bi,zX sm hd,?_⟩
 have hlen:ds.length=ps.length:=by rw [<-hd.length];exact hl
 unfold fn at hq
 rw [if_pos hlen] at hq
 cases z:b (L3.start N.length ds) with
 | no=>rw [z] at hq;exact hq
 | err c=>rw [z] at hq;exact fun Hi' H' e C hC=>hq C hC Hi' H' e
 | ok fl=>
  rw [z] at hq
  cases fl with
  | nx ρ'=>exact fun σ' Hi' H' s R=>hq .non Hi' H' R.ext .non
  | brk ρ'=>exact hq.elim
  | ctn ρ'=>exact hq.elim
  | ret r=>
   cases r with
   | v d=>exact hq
   | f es=>exact hq
theorem aU (F:Fn K mg x st ps f fd) (S:FnScope N ps (aJ st))
  (h:∀ (cdv:Value) (A:Around) (outer:List Env) (s:Shared) (H:Hp) (E:XK) (G:Gx),Good (BX P w K mg base N x st f cdv A outer s H E) G k->zCW (BX P w K mg base N x st f cdv A outer s H E) G->eV (BX P w K mg base N x st f cdv A outer s H E) G (eM st) b):
  CanM P w K mg base (k+1) x ps (fn ps.length N.length b):=by
 refine ⟨⟨f,fd,zKy F S h,F.bd,F.kp,F.mg⟩,fun ds hm=>?_⟩
 unfold fn at hm
 split at hm
 ·assumption
 ·exact absurd rfl hm
end
end L3
namespace L3
open PySem PySem.Spec PyProof.Rows L2
unseal PEd PEf PTd PWd PAd PSd eV POd PGd gW PId
section
variable {X:Cx} {G:Gx} {a b e:Expr} {es:List Expr} {pos p:Pos} {f g:Ev} {fs gs:Fv} {t u:Tv} {x:Str} {st:Stmt} {rest:List Stmt} {sa sb:Sv} {k:Nat}
theorem PTd.frz (h:PTd X G e t):PTd X G e (tFrzB t):=PT.wk h fun σ H Q q=>by
 obtain ⟨ρ,Hi,R,ou⟩:=q
 obtain ⟨Hf,s1,R1,fl⟩:=R.frz
 refine ⟨ρ.map Sl.frz,Hf,R1,?_⟩
 unfold tFrzB at ou
 cases z:t (ρ.map Sl.frz) with
 | no=>rw [z] at ou;exact ou
 | err c=>
  rw [z] at ou
  intro Hi1 H1 e1
  obtain ⟨Ht,e2,k,s2,n⟩:=Ext.thaw s1 fl R1.s e1
  exact ou Ht H1 e2
 | ok c=>
  rw [z] at ou
  intro Hi1 H1 e1
  obtain ⟨Ht,e2,k,s2,n⟩:=Ext.thaw s1 fl R1.s e1
  exact ou Ht H1 e2
def iSq (K:PySem.W.Frag) (tl:TE):TI:=fun σ H R=>tl σ H fun x H1=>∃ a,x=.ref a/\(((∃ xs,SqL K H1 a xs)/\R (Itl K a) H1)∨((∃ xs,SqT K H1 a xs)/\R (Itt K a) H1))
theorem zKE {tg l:Expr} {tl:TE} (hl:PE X l tl):PI X tg l (iSq X.K tl):=by
 intro pins s σ H R I h
 refine thn (hl pins s σ H _ I h) fun v s1 ⟨x,H1,I1,r1,q1⟩=>?_
 obtain ⟨a,e,q1⟩:=q1
 subst e
 cases r1
 rcases q1 with ⟨⟨xs,hq⟩,q⟩ | ⟨⟨xs,hq⟩,q⟩
 ·obtain ⟨its,rv,p,hz⟩:=I1.list hq
  refine wpAny_pyIter_list p.isList ?_
  refine ⟨s1.heap.objs.size,[s1.heap.objs.size],_,_,H1,rfl,I1.kept (t':=s1.toks) fun b o e=>Heap.get?_push_of_some _ e,zY a _,⟨_,Heap.get?_push_size _ rfl,rfl,rfl⟩,fun b hb=>?_,q⟩
  have e:b=s1.heap.objs.size:=by simpa using hb
  subst e
  exact I1.fpOk (Nat.le_refl _) (I1.hok.fresh (Nat.le_refl _))
 ·obtain ⟨its,rv,p,hz⟩:=I1.tuple hq
  refine wpAny_pyIter_tuple (show s1.heap.IsTuple a its.toArray from p) ?_
  refine ⟨s1.heap.objs.size,[s1.heap.objs.size],_,_,H1,rfl,I1.kept (t':=s1.toks) fun b o e=>Heap.get?_push_of_some _ e,zCp a _,⟨_,Heap.get?_push_size _ rfl,rfl,rfl⟩,fun b hb=>?_,q⟩
  have e:b=s1.heap.objs.size:=by simpa using hb
  subst e
  exact I1.fpOk (Nat.le_refl _) (I1.hok.fresh (Nat.le_refl _))
theorem xT {K:PySem.W.Frag} {Hi:Hp} {a:Addr} {xs:List V} {ds:List D} (h1:SqL K Hi a xs) (h2:IsDs K Hi xs ds):tU K Hi (Itl K a) ds:=fun Hi1 H1 s1 s2 i=>by
 have h3:=cK (s1.trans s2) h1
 refine ⟨fun hl=>⟨xs,h3,by rw [h2.length];exact hl⟩,fun d hd=>?_⟩
 obtain ⟨v,hv,r⟩:=h2.at hd
 refine ⟨⟨xs,v,h3,hv⟩,fun x H2 y=>?_⟩
 obtain ⟨e,y⟩:=y
 subst e
 have:=y xs h3
 rw [hv] at this
 cases this
 exact ⟨Hi1,Ext.refl s2,r.mono s1⟩
theorem iU {tg:Expr} (h:PEd X G e f):PId X G tg e (rX f):=PI.wk (zKE h) fun σ H Q q=>by
 obtain ⟨ρ,Hi,R,ou⟩:=q
 refine zAP R ou fun v d Hi1 H1 e1 R1 r1 o1=>?_
 cases d with
 | lst ds=>
  obtain ⟨a,xs,rfl,h1,h2⟩:=r1.lstI
  exact ⟨a,rfl,.inl ⟨⟨xs,cK R1.s h1⟩,o1.here R1.s _ (xT h1 h2)⟩⟩
 | tup ds=>
  obtain ⟨a,xs,rfl,h1,h2⟩:=r1.tupI
  exact ⟨a,rfl,.inr ⟨⟨xs,cD R1.s h1⟩,o1.here R1.s _ (zEe h1 h2)⟩⟩
 | _=>exact o1.elim
theorem bX {i:Nat}:∀ d ρ c,gName i d ρ≠.err c:=fun d ρ c z=>by cases z
theorem zIv:∀ d ρ c,zGA d ρ≠.err c:=fun d ρ c z=>by cases d<;>cases z
theorem zBB {g:Gv} {r:List D->Rho->Res Rho} (h1:∀ d ρ c,g d ρ≠.err c) (h2:∀ d ρ c,r d ρ≠.err c):∀ d ρ c,sT g r d ρ≠.err c:=fun d ρ c z=>by
 cases d with
 | nil=>cases z
 | cons d ds=>
  have z':(g d ρ).bind (fun ρ'=>r ds ρ')=.err c:=z
  cases q:g d ρ with
  | no=>rw [q] at z';cases z'
  | err c'=>exact h1 _ _ _ q
  | ok ρ'=>rw [q] at z';exact h2 _ _ _ z'
theorem zIm {r:List D->Rho->Res Rho} (h:∀ d ρ c,r d ρ≠.err c):∀ d ρ c,zGW r d ρ≠.err c:=fun d ρ c z=>by
 cases d<;>first | cases z | exact h _ _ _ z
theorem zKC:∀ (ds:List D) (ρ ρ':Rho),zGA ds ρ=.ok ρ'->ds.length=0:=fun ds ρ ρ' z=>by
 cases ds with
 | nil=>rfl
 | cons d ds=>cases z
theorem zCY {g:Gv} {r:List D->Rho->Res Rho} {n:Nat} (h:∀ (ds:List D) (ρ ρ':Rho),r ds ρ=.ok ρ'->ds.length=n):∀ (ds:List D) (ρ ρ':Rho),sT g r ds ρ=.ok ρ'->ds.length=n+1:=fun ds ρ ρ' z=>by
 cases ds with
 | nil=>cases z
 | cons d ds=>
  have z':(g d ρ).bind (fun ρ'=>r ds ρ')=.ok ρ':=z
  cases q:g d ρ with
  | no=>rw [q] at z';cases z'
  | err c'=>rw [q] at z';cases z'
  | ok ρ1=>rw [q] at z';rw [List.length_cons,h ds ρ1 ρ' z']
theorem zDw:∀ a b d,zBk a b=.ok d->∃ i j,a=.int i/\b=.int j/\d=.int (i+j):=fun a b d z=>by
 unfold zBk at z;split at z
 ·cases z;exact ⟨_,_,rfl,rfl,rfl⟩
 ·cases z
theorem zBu:∀ a b c,zBk a b≠.err c:=fun a b c z=>by unfold zBk at z;split at z<;>cases z
theorem zEW:∀ a b d,wZ a b=.ok d->∃ i j,a=.int i/\b=.int j/\d=.int (i - j):=fun a b d z=>by
 unfold wZ at z;split at z
 ·cases z;exact ⟨_,_,rfl,rfl,rfl⟩
 ·cases z
theorem zCc:∀ a b c,wZ a b≠.err c:=fun a b c z=>by unfold wZ at z;split at z<;>cases z
end
end L3
namespace L3
open PySem PySem.Spec PyProof.Rows L2
unseal PEd PEf PTd PWd PAd PSd eV POd PGd gW PId
theorem zG {K:PySem.W.Frag} {H:Hp}:∀ ns:List Int,IsDs K H (ns.map V.int) (ns.map D.int)
 | []=>.nil
 | n::ns=>.cons (.int n) (zG ns)
end L3
namespace L3
open PySem PySem.Spec PyProof.Rows L2
unseal PEd PEf PTd PWd PAd PSd eV POd PGd gW PId
section
variable {X:Cx} {G:Gx} {e:Expr} {es:List Expr} {pos np cpos:Pos} {fs:Fv} {k:Nat} {c:Str}
theorem iE (W:Good X G k) (WR:zCW X G) (hR:∃ C,Err X.K X.mg c C) (hg:Gl X c) (ha:PAd X G (e::es) fs)
  (he:starEach (e::es) X.env=(false,eval e X.env)::starEach es X.env:=by rfl) (hplain:(backTo cpos (starEach es X.env)).any (·.1)=false:=by rfl) (hd:(c==("__debug__" : Str))=false:=by decide):
  PSd X G (.Raise (some (.Call (.Name c np) (e::es) [] cpos)) none pos) (jI c fs):=by
 intro pins s σ H E I q
 obtain ⟨ρ,Hi,R,h⟩:=q
 obtain ⟨C,Er⟩:=hR
 obtain ⟨bmB,newId,B,initId,O,FB⟩:=Er.own X.base I.mod.kin
 obtain ⟨tl,N,nm,q,bs,hdct,sn,sub,ab,col,dd,k0,k1,k2,k3,k5,mN,hC,hN,hni,T⟩:=O.obj
 have hA:=ha cpos pins s σ H (fun vs H1=>vs.length<=sizeLine/\XE X G (.ref C) none H1) I ⟨ρ,Hi,R,lS R h fun ds Hi' H' _ e1 h' vs r=>by
  have h':Fin X G Hi' E (if ds.length<=16777216 then (.err c:Res Fl) else .no):=h'
  by_cases hz:ds.length<=16777216
  ·rw [if_pos hz] at h'
   exact ⟨by rw [r.length];exact hz,c,O.bound,h' Hi' H' (R.ext.trans e1)⟩
  ·rw [if_neg hz] at h';exact h'.elim⟩
 refine wpAny_Raise_call_subT (C:=C) (nm:=nm) (q:=q) (N:=N) (bs:=bs) (bm:=tl) (hdct:=hdct) (sn:=sn) (sub:=sub) (ab:=ab) (col:=col) (dd:=dd) (k0:=k0) (k1:=k1) (k2:=k2) (k3:=k3) (k5:=k5)
  FB (mN:=mN) (T.hasType FB.hasBase) (I.ok.hd W.calm) (by rw [he];show (false || (backTo cpos (starEach es X.env)).any (·.1))=false;rw [hplain];rfl) hni (zBc I hg O.bound ⟨rfl,?_⟩ hd)
 rw [he] at hA ⊢
 refine Calls.evalArgs_plain (wpAny_mono hA (fun us s₂ h₂=>?_) fun _ _ y=>y)
 obtain ⟨vs,H2,I2,rv,hz,hx⟩:=h₂
 exact ⟨rfl,by show us.length<=sizeLine;rw [<-rv.length];exact hz,I2.bk _ _ hC,hN.keeps I2.bk,T.keeps I2.bk,fun h' ea hm=>WR pins σ H2 s₂ { s₂ with heap:=h' } ea (.ref C) us I2 hm rfl I2.bare hx⟩
end
end L3
namespace L3
open PySem PySem.Spec PyProof.Rows L2 PySem.W Builtin Builtin.ObjectAttr Builtin.Getset_descriptor
unseal PEd PEf PTd PWd PAd PSd eV POd PGd gW PId
section
variable {prog:Program} {w:World} {A:Around} {E:Value->Shared->Prop} {s:Shared} {K:Frag} {x D:Addr} {ox:Obj}
end
end L3
namespace L3
open PySem PySem.Spec PyProof.Rows L2 PySem.W
unseal PEd PEf PTd PWd PAd PSd eV POd PGd gW PId
section
variable {prog:Program} {w:World} {A:Around} {E:Value->Shared->Prop} {s:Shared} {K:Frag} {x C CE:Addr} {ox:Obj}
end
end L3
namespace L3
open PySem PySem.Spec PyProof.Rows L2 PySem.W
unseal PEd PEf PTd PWd PAd PSd eV POd PGd gW PId
section
variable {X:Cx} {pins:List (Addr×Obj)} {σ:St} {H H':Hp} {s s':Shared} {ea:Addr} {cls:Value}
theorem _root_.L2.Inv.track (I:Inv X pins σ H s) {a:Addr} {o:HO} (hn:H a=none) (h0:X.s₀.heap.get? a=none) (hl:a≠X.env.locals) (hc:∀ x c,X.env.cells.lookup x=some c->c≠a) (hp:∀ p∈X.pn++pins,p.1≠a)
  (ho:iP X.prog X.w (upd H a o) s.heap a o):Inv X pins σ (upd H a o) s where
 ok:=I.ok
 os:=I.os
 bare:=I.bare
 base:=⟨I.base.keep,I.base.slot,fun b ob e n hx=>by
   have:b≠a:=fun z=>by rw [z,h0] at e;cases e
   rw [bA this];exact I.base.free b ob e n hx,I.base.there,fun b xs e=>by
   have z:=I.base.tups b xs e
   rw [bA (aY z hn)];exact z,fun b ob u e=>by
   have z:=I.base.frzs b ob u e
   rw [bA (aY z hn)];exact z,fun b ps e=>by
   obtain ⟨m,z⟩:=I.base.tbls b ps e
   exact ⟨m,by rw [bA (aY z hn)];exact z⟩⟩
 loc:=I.loc
 cell:=I.cell
 free:=by rw [bA (Ne.symm hl)];exact I.free
 freeC:=fun x c e=>by rw [bA (hc x c e)];exact I.freeC x c e
 pin:=fun p hp'=>by
  obtain ⟨e1,e2,e3,e4,e5⟩:=I.pin p hp'
  exact ⟨e1,by rw [bA (hp p hp')];exact e2,e3,e4,e5⟩
 hok:=fun b u e=>by
  by_cases hb:b=a
  ·subst hb;rw [aW] at e;cases e;exact ho
  ·rw [bA hb] at e
   exact (I.hok b u e).stay (fun c v _ q=>q) (fun c q=>by rw [bA (aY q hn)];exact q) fun c xs q=>by rw [bA (aY q hn)];exact q
 len:=I.len
end
end L3
namespace L3
open PySem PySem.Spec PyProof.Rows L2 PySem.W
unseal PEd PEf PTd PWd PAd PSd eV POd PGd gW PId
section
variable {X:Cx} {G:Gx} {a e:Expr} {es:List Expr} {pos p:Pos} {fs:Fv} {t:Tv} {x:Str} {k:Nat} {ps:List Str} {m:Mir} {st:Stmt} {sts:List Stmt} {sa sb:Sv}
def zMO (X:Cx) (pins:List (Addr×Obj)) (σ:St) (Hi H:Hp) (c:Str) (ev:Value) (s':Shared):Prop:=
 ∃ (s1:Shared) (H1:Hp) (ea:Addr) (cls:Value) (Hi' H':Hp),ev=.ref ea/\Inv X pins σ H1 s1/\X.mg c=some cls/\Fly X.prog X.w X.stack H1 H' s1 ea cls s'/\Ext Hi H Hi' H'/\Keep H H1
def zMz (X:Cx) (G:Gx) (Hi:Hp) (E:Ends) (r:Res Fl):Prop:=match r with
 | .err _=>True
 | r=>Fin X G Hi E r
@[irreducible] def PSx (X:Cx) (G:Gx) (st:Stmt) (f:Sv):Prop:=∀ (pins:List (Addr×Obj)) (s:Shared) (σ:St) (H:Hp) (E:Ends) (ρ:Rho) (Hi:Hp) (Et:Value->Shared->Prop),
 Inv X pins σ H s->jF X G Hi H σ ρ->f ρ≠.no->zMz X G Hi E (f ρ)->(∀ c ev s',f ρ=.err c->zMO X pins σ Hi H c ev s'->Et ev s')->wpAny (model X.prog X.w) X.A (exec st X.env) (SP X pins E) Et s
unseal PSx
@[irreducible] def kY (X:Cx) (G:Gx) (sts:List Stmt) (f:Sv):Prop:=∀ (pins:List (Addr×Obj)) (s:Shared) (σ:St) (H:Hp) (E:Ends) (ρ:Rho) (Hi:Hp) (Et:Value->Shared->Prop),
 Inv X pins σ H s->jF X G Hi H σ ρ->f ρ≠.no->zMz X G Hi E (f ρ)->(∀ c ev s',f ρ=.err c->zMO X pins σ Hi H c ev s'->Et ev s')->wpAny (model X.prog X.w) X.A (execs sts X.env) (SP X pins E) Et s
unseal kY
end
end L3
namespace L3
open PySem PySem.Spec PyProof.Rows L2 PySem.W
unseal PEd PEf PTd PWd PAd PSd eV POd PGd gW PId PSx kY
section
variable {X:Cx} {G:Gx} {k:Nat} {fb fh:Sv} {body suite:List Stmt} {b₀:Stmt} {ce n:Str} {np hpos pos:Pos} {i:Nat} {tb:List Str}
end
end L3
namespace L3
open PySem PySem.Spec PyProof.Rows L2 PySem.W
unseal PEd PEf PTd PWd PAd PSd eV POd PGd gW PId PSx kY
section
variable {X:Cx} {G:Gx} {a:Expr} {p q pos:Pos} {i:Nat} {anc:List (Str×List Str)} {xs:List Str} {x:Str}
end
end L3
namespace L3
open PySem PySem.Spec PyProof.Rows L2 PySem.W
unseal PEd PEf PTd PWd PAd PSd eV POd PGd gW PId PSx kY
section
variable {K:Frag} {h:Heap} {mg:Str->Option Value} {x c ce:Str} {C CE:Addr}
theorem yZ {newId:String} {bmB:List Value} {B initId:String} (X:K.In h) (G:h.Ns mainGlobals mg) (e:nsIn K mainGlobals x=some (some (.ref C))) (q:excIn K C bmB newId=true) (F:ExcBaseFacts B newId initId bmB):∃ C,Err K mg x C:=by
 refine ⟨C,⟨fun h' X'=>⟨bmB,newId,B,initId,⟨mg_of X G e,?_⟩,F⟩⟩⟩
 unfold excIn at q
 split at q
 ·rename_i dd cd sl ho
  split at q
  ·rename_i C' bm k0 k1 k2 k3 n k5 hm hs
   simp only [Bool.and_eq_true,beq_iff_eq,Bool.not_eq_true'] at q
   obtain ⟨⟨⟨⟨⟨rfl,rfl⟩,hdel⟩,ht⟩,hok⟩,hni⟩:=q
   obtain ⟨nm,bs,mro,ns,qn,hd,sn,sub,ab,col,del⟩:=cd
   dsimp only at hm hdel hok hni
   subst hm hdel
   have hsl:sl=#[k0,k1,k2,k3,some (.builtin n),k5]:=by
    obtain ⟨l⟩:=sl
    simp only at hs
    rw [hs]
   subst hsl
   exact ⟨bm,ns,nm,qn,bs,hd,sn,sub,ab,col,dd,k0,k1,k2,k3,k5,_,X' _ _ ho,.of_isNs (isNs_of_in X' hok),nsMap_none_of_in X' hok hni,tail_of_in X' ht⟩
  ·cases q
 ·cases q
end
end L3
namespace L3
open PySem PySem.Spec PyProof.Rows L2
unseal PEd PEf PTd PWd PAd PSd eV POd PGd gW PId PSx kY
def zBe (env:Env):List (Str×NameKind)->List (Str×Addr)->List (Str×Addr)
 | [],cs=>cs
 | (n,k)::r,cs=>zBe env r (if k==.free then (n,(env.cells.lookup n).getD 0)::cs else cs)
theorem zGJ {env:Env}:∀ (l:List (Str×NameKind)) (cs:List (Str×Addr)),(∀ p∈l,p.2=.free->∃ c,env.cells.lookup p.1=some c)->
  (forIn l cs (fun p (r:List (Str×Addr))=>if (p.2==NameKind.free)=true then (do let a <-cellOf env p.1;pure (ForInStep.yield ((p.1,a)::r))) else pure (ForInStep.yield r)):Sem (List (Str×Addr)))=pure (zBe env l cs)
 | [],cs,_=>by simp [zBe]
 | (n,k)::r,cs,h=>by
  rw [List.forIn_cons,zBe]
  have ih:=fun cs=>zGJ r cs fun p hp=>h p (List.mem_cons_of_mem _ hp)
  by_cases e:(k==NameKind.free)=true
  ·obtain ⟨c,hc⟩:=h (n,k) List.mem_cons_self (beq_iff_eq.mp e)
   simp only [e,if_true,cellOf,hc,pure_bind,Option.getD_some]
   exact ih _
  ·simp only [e,Bool.false_eq_true,if_false,pure_bind]
   exact ih _
theorem zGI {env:Env} {scope:Scope} (h:∀ p∈scope.names,p.2=.free->∃ c,env.cells.lookup p.1=some c):closureFor scope env=pure (zBe env scope.names []):=by
 have:=zGJ scope.names [] h
 unfold closureFor
 rw [<-this]
 simp
theorem qF {env:Env}:∀ (l:List (Str×NameKind)) (cs:List (Str×Addr)),(∀ p∈l,p.2=.free->∃ c,env.cells.lookup p.1=some c)->(∀ y c,cs.lookup y=some c->env.cells.lookup y=some c)->
  ∀ y c,(zBe env l cs).lookup y=some c->env.cells.lookup y=some c
 | [],cs,_,h,y,c,e=>h y c e
 | (n,k)::r,cs,hl,h,y,c,e=>by
  rw [zBe] at e
  refine qF r _ (fun p hp=>hl p (List.mem_cons_of_mem _ hp)) (fun y c e=>?_) y c e
  by_cases z:(k==NameKind.free)=true
  ·obtain ⟨c',hc⟩:=hl (n,k) List.mem_cons_self (beq_iff_eq.mp z)
   simp only [z,if_true,List.lookup_cons,hc,Option.getD_some] at e
   cases w:y==n with
   | true=>rw [w] at e;cases e;rw [beq_iff_eq.mp w];exact hc
   | false=>rw [w] at e;exact h y c e
  ·simp only [z,Bool.false_eq_true,if_false] at e
   exact h y c e
theorem zBt {env:Env}:∀ (l:List (Str×NameKind)) (cs:List (Str×Addr)) (y:Str),(∃ c,cs.lookup y=some c)->∃ c,(zBe env l cs).lookup y=some c
 | [],cs,y,h=>h
 | (n,k)::r,cs,y,⟨c,h⟩=>by
  rw [zBe]
  refine zBt r _ y ?_
  split
  ·rw [List.lookup_cons]
   cases y==n with
   | true=>exact ⟨_,rfl⟩
   | false=>exact ⟨c,h⟩
  ·exact ⟨c,h⟩
theorem pO {env:Env}:∀ (l:List (Str×NameKind)) (cs:List (Str×Addr)) (y:Str),(y,NameKind.free)∈l->∃ c,(zBe env l cs).lookup y=some c
 | (n,k)::r,cs,y,h=>by
  rw [zBe]
  rcases List.mem_cons.mp h with e | h
  ·cases e
   refine zBt r _ _ ⟨(env.cells.lookup n).getD 0,?_⟩
   simp only [beq_self_eq_true,if_true,List.lookup_cons]
  ·exact pO r _ y h
theorem bL {α:Type}:∀ {l:List (Str×α)} {y:Str} {k:α},l.lookup y=some k->(y,k)∈l
 | (n,k')::r,y,k,h=>by
  rw [List.lookup_cons] at h
  cases z:y==n with
  | true=>rw [z] at h;cases h;rw [beq_iff_eq.mp z];exact List.mem_cons_self
  | false=>rw [z] at h;exact List.mem_cons_of_mem _ (bL h)
theorem cC {env:Env}:∀ {l:List (Str×NameKind)} {y:Str} {k:NameKind},
  (l.map fun (n,k)=>if (k==NameKind.free && env.scope.kind==.function && env.kindOf n==some .cell) then (n,NameKind.cell) else (n,k)).lookup y=some k->
  l.lookup y=some k∨(k=.cell/\l.lookup y=some .free)
 | (n,k')::r,y,k,h=>by
  rw [List.map_cons] at h
  rw [List.lookup_cons]
  by_cases c:(k'==NameKind.free && env.scope.kind==.function && env.kindOf n==some .cell)=true
  ·simp only [c,if_true,List.lookup_cons] at h
   cases z:y==n with
   | true=>
    rw [z] at h
    cases h
    refine .inr ⟨rfl,?_⟩
    simp only [Bool.and_eq_true] at c
    rw [beq_iff_eq.mp c.1.1]
   | false=>rw [z] at h;exact cC h
  ·simp only [c,Bool.false_eq_true,if_false,List.lookup_cons] at h
   cases z:y==n with
   | true=>rw [z] at h;exact .inl h
   | false=>rw [z] at h;exact cC h
def msk (x y:Str):Str:=if y=x then ("" : Str) else y
structure BlkOk (X:Cx) (x:Str) (scope:Scope):Prop where
 kind:scope.kind=.function
 cell:∀ y∈scope.names,y.2≠.cell
 loc:scope.names.lookup x=some .local
 names:∀ y∈scope.names,y.2=.local->scope.names.lookup y.1=some .local
 fre:∀ p∈scope.names,p.2=.free->X.env.kindOf p.1=some .cell∨X.env.kindOf p.1=some .free
 oth:∀ y∈X.N,y≠x->scope.names.lookup y≠some .local
 emp:scope.names.lookup ("" : Str)=none
def cxC (X:Cx) (x:Str) (scope:Scope) (C:Addr) (s₂:Shared) (H₂:Hp) (fp:List Addr):Cx:=
  { prog:=X.prog,w:=X.w,K:=X.K,mg:=X.mg,base:=X.base,A:=X.A,N:=X.N.map (msk x)++[x],s₀:=s₂,H₀:=H₂,env:=compEnvC scope (zBe X.env scope.names []) C X.env,outer:=X.stack,stack:=X.stack,
    ex:=fp,fn:=fun _=>false,calm:=X.calm,pn:=X.pn,xe:=fun _ _=>False }
section
variable {X:Cx} {pins:List (Addr×Obj)} {σ:St} {H:Hp} {s₂:Shared} {x:Str} {scope:Scope} {fp:List Addr} {D C:Addr} {h₁:Heap}
theorem BlkOk.cl (B:BlkOk X x scope) (I:Inv X pins σ H s₂):∀ p∈scope.names,p.2=.free->∃ c,X.env.cells.lookup p.1=some c:=fun p hp e=>I.ok.has p.1 (B.fre p hp e)
theorem zMi (I:Inv X pins σ H s₂) (B:BlkOk X x scope) (hfp:∀ b∈fp,pA X pins H b) (hfl:∀ b∈fp,b < s₂.heap.objs.size) (hD:s₂.heap.objs.size<=D) (hC:s₂.heap.objs.size<=C) (hDC:D≠C)
  (old:∀ b o,s₂.heap.get? b=some o->h₁.get? b=some o) {n:Nat} (hacc:h₁.get? D=some { cls:=.type "list", data:=.seq ([]:List Value).toArray n }) {m:Str->Option Value} (hns:h₁.Ns C m) (t:Nat):
  Inv (cxC X x scope C s₂ H fp) pins (σ++[none]) (upd H D (.lst [])) { s₂ with heap:=h₁,toks:=t }:=by
 have sub:=qF scope.names [] (B.cl I) (fun y c e=>nomatch e)
 have old_lt:∀ {b:Addr} {o:Obj},s₂.heap.get? b=some o->b≠D/\b≠C:=fun e=>⟨Nat.ne_of_lt (Nat.lt_of_lt_of_le (Heap.lt_size e) hD),Nat.ne_of_lt (Nat.lt_of_lt_of_le (Heap.lt_size e) hC)⟩
 have free:∀ {b:Addr},b≠D->H b=none->upd H D (.lst []) b=none:=fun n e=>by rw [bA n];exact e
 refine ⟨⟨I.ok.mod,B.kind,I.ok.glob,I.ok.blt,hC,fun y z c e1 e2=>I.ok.inj y z c (sub y c e1) (sub z c e2),fun y hy=>?_,fun y c e=>(nomatch e),I.ok.hd,I.ok.frames,.inl rfl,fun b hb=>⟨Nat.ne_of_lt (Nat.lt_of_lt_of_le (hfl b hb) hC),fun y c e=>(hfp b hb).2.2.2.2.1 y c (sub y c e)⟩,
  I.bs,Nat.le_trans I.ok.bsz I.sz,fun b o e hb=>?_,fun b hb z=>?_,I.stack,I.stkFree⟩,rfl,I.bare,Un.laid old hD (I.hok.fresh hD),⟨m,hns,fun i y v e1 e2 e3=>?_⟩,fun y c e=>?_,free (Ne.symm hDC) (I.hok.fresh hC),fun y c e=>?_,fun p hp=>?_,I.hok.laid old hD ⟨Nat.zero_le _,[],n,.nil,hacc⟩,?_⟩
 ·have:∃ k,(k=NameKind.cell∨k=NameKind.free)/\((relabel scope X.env).names).lookup y=some k:=hy.elim (fun h=>⟨_,.inl rfl,h⟩) fun h=>⟨_,.inr rfl,h⟩
  obtain ⟨k,hk,e⟩:=this
  have e':(y,NameKind.free)∈scope.names:=by
   rcases cC e with z | ⟨_,z⟩
   ·rcases hk with rfl | rfl
    ·exact absurd rfl (B.cell _ (bL z))
    ·exact bL z
   ·exact bL z
  exact pO scope.names [] y e'
 ·rcases (hfp b hb).2.2.2.1 with z | z
  ·exact I.ok.noex b o e z
  ·exact absurd (Nat.lt_of_lt_of_le (Heap.lt_size e) (Nat.le_trans I.ok.bsz z)) (Nat.lt_irrefl _)
 ·rcases List.mem_cons.mp (I.stkSub b z) with w | w
  ·exact (hfp b hb).2.1 w
  ·exact (hfp b hb).2.2.1 w
 ·
  have hi:i < σ.length:=by
   by_cases hi:i < σ.length
   ·exact hi
   ·exfalso
    rw [List.getElem?_append_right (by omega)] at e2
    cases q:i - σ.length with
    | zero=>rw [q] at e2;cases e2
    | succ j=>rw [q] at e2;cases e2
  rw [List.getElem?_append_left hi] at e2
  have e1':(X.N.map (msk x)++[x])[i]?=some y:=e1
  rw [List.getElem?_append_left (by rw [List.length_map,<-I.len];exact hi),List.getElem?_map] at e1'
  cases q:X.N[i]? with
  | none=>rw [q] at e1';cases e1'
  | some z=>
   rw [q] at e1'
   have e1'':msk x z=y:=Option.some.inj e1'
   have hz:z∈X.N:=List.mem_of_getElem? q
   have vis:∃ k,((relabel scope X.env).names).lookup y=some k:=e3.elim (fun h=>⟨_,h⟩) fun h=>h.elim (fun h=>⟨_,h⟩) fun h=>⟨_,h⟩
   have hzx:z≠x:=fun w=>by
    obtain ⟨k,hk⟩:=vis
    have:y=("" : Str):=by rw [<-e1'',w];exact if_pos rfl
    rw [this] at hk
    rcases cC hk with h | ⟨_,h⟩<;>(rw [B.emp] at h;cases h)
   have hy:z=y:=by rw [<-e1''];exact (if_neg hzx).symm
   subst hy
   have fr:(z,NameKind.free)∈scope.names:=by
    rcases e3 with h | h | h
    ·rcases cC h with h | ⟨h,_⟩
     ·exact absurd h (B.oth z hz hzx)
     ·cases h
    ·rcases cC h with h | ⟨_,h⟩
     ·exact absurd rfl (B.cell _ (bL h))
     ·exact bL h
    ·rcases cC h with h | ⟨h,_⟩
     ·exact bL h
     ·cases h
   have kd:=B.fre _ fr rfl
   obtain ⟨m0,hn0,hl⟩:=I.loc
   obtain ⟨u,ru,lk⟩:=hl i z v q e2 (kd.elim (fun h=>.inr (.inl h)) fun h=>.inr (.inr h))
   refine ⟨u,ru,.inr ⟨?_,?_⟩⟩
   ·rcases e3 with h | h | h
    ·rcases cC h with h | ⟨h,_⟩
     ·exact absurd h (B.oth z hz hzx)
     ·cases h
    ·exact .inl h
    ·exact .inr h
   ·rcases lk with ⟨k1,_⟩ | ⟨_,c,hc,hcell⟩
    ·rcases kd with kd | kd<;>(rw [kd] at k1;cases k1)
    ·obtain ⟨c',hc'⟩:=pO (env:=X.env) scope.names [] z fr
     have:=sub z c' hc'
     rw [hc] at this
     cases this
     obtain ⟨o,ho,hd⟩:=hcell
     exact ⟨c,hc',o,old _ _ ho,hd⟩
 ·obtain ⟨v,o,ho,hd⟩:=I.cell y c (sub y c e)
  exact ⟨v,o,old _ _ ho,hd⟩
 ·obtain ⟨v,o,ho,hd⟩:=I.cell y c (sub y c e)
  exact free (old_lt ho).1 (I.freeC y c (sub y c e))
 ·obtain ⟨e,n,ne,nf,d⟩:=I.pin p hp
  refine ⟨old _ _ e,free (old_lt e).1 n,(old_lt e).2,fun z=>?_,d⟩
  rcases List.mem_cons.mp (I.stkSub _ z) with w | w
  ·exact ne w
  ·exact nf w
 ·show (σ++[none]).length=(X.N.map (msk x)++[x]).length
  rw [List.length_append,List.length_append,List.length_map,I.len];rfl
end
end L3
namespace L3
open PySem PySem.Spec PyProof.Rows L2
unseal PEd PEf PTd PWd PAd PSd eV POd PGd gW PId PSx kY
section
variable {K:PySem.W.Frag} {mg:Str->Option Value} {B Bi Hi H Hi' H':Hp} {σ:St} {ρ:Rho}
theorem Rel.snoc {v:V} {d:D} (R:Rel K mg B Bi Hi H σ ρ) (h:IsD K Hi v d):Rel K mg B Bi Hi H (σ++[some v]) (ρ++[.val d]) where
 len:=by rw [List.length_append,List.length_append,R.len];rfl
 ext:=R.ext
 slot:=fun j s q=>by
  by_cases hl:j < ρ.length
  ·rw [List.getElem?_append_left hl] at q
   rw [List.getElem?_append_left (by rw [R.len];exact hl)]
   exact R.slot j s q
  ·rw [List.getElem?_append_right (by omega)] at q
   rw [List.getElem?_append_right (by rw [R.len];omega),R.len]
   cases z:j - ρ.length with
   | zero=>rw [z] at q;cases q;exact ⟨v,rfl,h⟩
   | succ n=>rw [z] at q;cases q
 dist:=fun j k a ds es q1 q2 q3 q4=>by
  have own:∀ {j:Nat} {ds:List D},(ρ++[Sl.val d])[j]?=some (.own ds)->j < ρ.length:=fun {j ds} q=>by
   by_cases hl:j < ρ.length
   ·exact hl
   ·rw [List.getElem?_append_right (by omega)] at q
    cases z:j - ρ.length with
    | zero=>rw [z] at q;cases q
    | succ n=>rw [z] at q;cases q
  have h1:=own q1
  have h2:=own q2
  rw [List.getElem?_append_left h1] at q1
  rw [List.getElem?_append_left h2] at q2
  rw [List.getElem?_append_left (by rw [R.len];exact h1)] at q3
  rw [List.getElem?_append_left (by rw [R.len];exact h2)] at q4
  exact R.dist j k a ds es q1 q2 q3 q4
theorem Ext.rewrite {a:Addr} {o:HO} (e:Ext Hi H Hi' H') (hn:H a=none) (hi:Hi' a=none) (hl:∃ xs,H' a=some (.lst xs)):Ext Hi H Hi' (upd H' a o) where
 i:=e.i
 h:=⟨fun b u z=>by rw [bA (aY z hn)];exact e.h.k _ _ z,fun P z=>by
  obtain ⟨xs,hl⟩:=hl
  exact (e.h.t P z).put (fun ps y=>by rw [hl] at y;cases y) (fun ob u y=>by rw [hl] at y;cases y)⟩
 s:=fun b u z=>by rw [bA (aY z hi)];exact e.s _ _ z
 n:=e.n
theorem IsDs.snoc {v:V} {d:D} (h:IsD K H v d):∀ {vs:List V} {ds:List D},IsDs K H vs ds->IsDs K H (vs++[v]) (ds++[d])
 | _,_,.nil=>.cons h .nil
 | _,_,.cons r t=>.cons r (IsDs.snoc h t)
end
theorem wN {α:Type} {r:Res α} {a:α} (h:noErr r=.ok a):r=.ok a:=by
 cases r with
 | ok b=>exact h
 | err c=>cases h
 | no=>cases h
theorem zCs {t:Tv} {f:Ev} {ρ:Rho} {d:D} {ds es:List D} (h:gG t f ρ (d::ds)=.ok es):
  (t (ρ++[.val d])=.ok false/\gG t f ρ ds=.ok es)∨(t (ρ++[.val d])=.ok true/\∃ e es',f (ρ++[.val d])=.ok e/\gG t f ρ ds=.ok es'/\es=e::es'):=by
 rw [gG] at h
 cases ht:noErr (t (ρ++[.val d])) with
 | no=>rw [ht] at h;cases h
 | err c=>rw [ht] at h;cases h
 | ok c=>
  rw [ht] at h
  have ht':=wN ht
  cases c with
  | false=>exact .inl ⟨ht',h⟩
  | true=>
   refine .inr ⟨ht',?_⟩
   have h':((noErr (f (ρ++[.val d]))).bind fun e=>(gG t f ρ ds).bind fun es=>.ok (e::es))=.ok es:=h
   cases hf:noErr (f (ρ++[.val d])) with
   | no=>rw [hf] at h';cases h'
   | err c=>rw [hf] at h';cases h'
   | ok e=>
    rw [hf] at h'
    have h'':((gG t f ρ ds).bind fun es=>.ok (e::es))=.ok es:=h'
    cases hr:gG t f ρ ds with
    | no=>rw [hr] at h'';cases h''
    | err c=>rw [hr] at h'';cases h''
    | ok es'=>
     rw [hr] at h''
     cases h''
     exact ⟨e,es',wN hf,rfl,rfl⟩
theorem vQ {t:Tv} {f:Ev} {ρ:Rho} {c:Str}:∀ {ds:List D},gG t f ρ ds≠.err c
 | []=>fun h=>by cases h
 | d::ds=>fun h=>by
  rw [gG] at h
  cases ht:noErr (t (ρ++[.val d])) with
  | no=>rw [ht] at h;cases h
  | err c=>cases q:t (ρ++[.val d])<;>(rw [q] at ht;cases ht)
  | ok b=>
   rw [ht] at h
   cases b with
   | false=>exact vQ h
   | true=>
    have h':((noErr (f (ρ++[.val d]))).bind fun e=>(gG t f ρ ds).bind fun es=>.ok (e::es))=.err c:=h
    cases hf:noErr (f (ρ++[.val d])) with
    | no=>rw [hf] at h';cases h'
    | err c=>cases q:f (ρ++[.val d])<;>(rw [q] at hf;cases hf)
    | ok e=>
     rw [hf] at h'
     cases hr:gG t f ρ ds with
     | no=>simp only [Res.bind,hr] at h';cases h'
     | err c'=>exact vQ hr
     | ok es=>simp only [Res.bind,hr] at h';cases h'
@[irreducible] def PTs (X:Cx) (G:Gx) (ifs:List Expr) (t:Tv):Prop:=
 ∀ (pins:List (Addr×Obj)) (s:Shared) (σ:St) (H:Hp) (Q:Bool->Hp->Prop),Inv X pins σ H s->tTb X G t σ H Q->
  wpAny (model X.prog X.w) X.A (forIn ifs true fun c r=>if r=true then do let ok <-isTrue c X.env (eval c X.env);pure (ForInStep.yield ok) else pure (ForInStep.yield r)) (TP X pins σ Q) X.xe s
unseal PTs
theorem rT {X:Cx} {G:Gx}:PTs X G [] rM:=fun pins s σ H Q I ⟨ρ,Hi,R,o⟩=>wpAny_tests_nil ⟨H,I,Out.here (a:=true) o R.s⟩
end L3
namespace L3
open PySem PySem.Spec PyProof.Rows L2
unseal PEd PEf PTd PWd PAd PSd eV POd PGd gW PId PSx kY PTs
section
variable {X:Cx} {G:Gx} {elt iter:Expr} {x:Str} {px pos:Pos} {ifs:List Expr} {scope:Scope} {it:Fv} {t:Tv} {f:Ev} {k:Nat}
theorem zJf {M:Model} {A:Around} {α:Type} {m:Sem α} {itv u:Value} {s:Shared} {Q1:Unit->Shared->Prop} {R1:α->Shared->Prop} {E:Value->Shared->Prop} (h:wpAny M A (letOwnedTupleGo (.Name x px) itv u) Q1 E s)
  (k:∀ s5,Q1 () s5->wpAny M A m R1 E s5):wpAny M A m R1 E s:=by
 have key:=wpAny_bind (f:=fun _:Unit=>m) (wpAny_mono h (fun _ s5 h5=>k s5 h5) fun _ _ z=>z)
 have e:(letOwnedTupleGo (.Name x px) itv u >>= fun _=>m)=m:=pure_bind () fun _=>m
 rw [e] at key
 exact key
theorem zDF {N:List Str} (hN:N.Nodup) (h0:("" : Str)∉N) (hx:x≠("" : Str)):(N.map (msk x)++[x]).Nodup:=by
 rw [List.nodup_append]
 refine ⟨?_,List.nodup_cons.mpr ⟨by simp,List.nodup_nil⟩,fun a ha b hb e=>?_⟩
 ·induction N with
  | nil=>exact List.nodup_nil
  | cons y N ih=>
   rw [List.map_cons,List.nodup_cons]
   obtain ⟨hy,hN⟩:=List.nodup_cons.mp hN
   refine ⟨fun hm=>?_,ih hN fun z=>h0 (List.mem_cons_of_mem _ z)⟩
   obtain ⟨z,hz,e⟩:=List.mem_map.mp hm
   unfold msk at e
   by_cases c1:z=x
   ·by_cases c2:y=x
    ·exact hy (by rw [c2,<-c1];exact hz)
    ·rw [if_pos c1,if_neg c2] at e;exact h0 (by rw [e];exact List.mem_cons_self)
   ·by_cases c2:y=x
    ·rw [if_neg c1,if_pos c2] at e;exact h0 (by rw [<-e];exact List.mem_cons_of_mem _ hz)
    ·rw [if_neg c1,if_neg c2] at e;exact hy (by rw [<-e];exact hz)
 ·obtain ⟨z,hz,e1⟩:=List.mem_map.mp ha
  rw [List.mem_singleton] at hb
  subst hb
  subst e
  unfold msk at e1
  split at e1
  ·exact hx e1.symm
  ·rename_i c;exact c e1
structure CW where
 i:Nat
 v:List (Option V)
 H:Hp
 Hi:Hp
 ys:List V
 done:List D
 rest:List D
structure CS (Y:Cx) (pins:List (Addr×Obj)) (σ:St) (tn:Nat->Heap->Prop) (fp:List Addr) (Hi2 H2:Hp) (a:Addr) (m:Nat) (cp:Nat->Res (List D)) (es:List D) (c:CW) (s':Shared):Prop where
 inv:Inv Y pins (σ++c.v) c.H s'
 wid:c.v.length=m
 tn:tn c.i s'.heap
 fr:∀ b∈fp,c.H b=none
 ext:Ext Hi2 H2 c.Hi c.H
 acc:c.H a=some (.lst c.ys)
 hi:c.Hi a=none
 isd:IsDs Y.K c.Hi c.ys c.done
 len:c.done.length<=c.i
 cmp:cp c.i=.ok c.rest
 all:es=c.done++c.rest
def zMX (X:Cx) (pins:List (Addr×Obj)) (σ:St) (use:Option (Value->Sem Unit)) (Q':Value->Shared->Prop) (Qa:Addr->Hp->Prop):Prop:=
 ∀ (C A:Addr) (m:Str->Option Value) (s4:Shared) (H3:Hp),s4.heap.Ns C m->(∀ h',Heap.SameBut C s4.heap h'->Inv X pins σ H3 { s4 with heap:=h' })->pA X pins H3 C->Qa A H3->
  compPost (model X.prog X.w) X.A X.xe use Q' (.ref A) C (.ok .next) s4
theorem zD (hc:X.calm=true/\TB X.K X.mg G.Bi G.B) (hr:Room k X.A) (Bk:BlkOk X x scope) (hN:X.N.Nodup) (h0:("" : Str)∉X.N) (hx0:x≠("" : Str)) (hi:PId X G (.Name x px) iter it)
  (hb:∀ (C:Addr) (s₂:Shared) (H₂:Hp) (fp:List Addr) (G':Gx),Good (cxC X x scope C s₂ H₂ fp) G' k->PTs (cxC X x scope C s₂ H₂ fp) G' ifs t/\PEd (cxC X x scope C s₂ H₂ fp) G' elt f)
  (hs:∀ x,foldedSetIterable iter X.env x=pure x:=by intro _;rfl)
  {pins:List (Addr×Obj)} {s:Shared} {σ:St} {H Hi:Hp} {ρ:Rho} {use:Option (Value->Sem Unit)} {Q':Value->Shared->Prop} {Qa:Addr->Hp->Prop} {cpos:Pos} (I:Inv X pins σ H s) (R:jF X G Hi H σ ρ)
  (ou:Out G Hi H ((oA it t f) ρ) fun ds Hi' H'=>∀ a,zFA X.K H Hi' H' a ds->Qa a H') (hend:zMX X pins σ use Q' Qa):
  wpAny (model X.prog X.w) X.A (comprehension (.ListComp elt [⟨.Name x px,iter,ifs,0⟩] scope pos) scope X.env cpos (newList []) false (eval iter X.env) use) Q' X.xe s:=by
 refine wpAny_comprehension_free (use:=use) rfl hs (zGI (Bk.cl I)) Bk.kind Bk.names ?_
 refine thn (hi pins s σ H (fun J H2=>∃ ds Hi2,Ext Hi H Hi2 H2/\tU X.K Hi2 J ds/\Out G Hi2 H2 (if ds.length<=16777215 then gG t f ρ ds else .no) fun ds Hi' H'=>∀ a,zFA X.K H Hi' H' a ds->Qa a H') I
  ⟨ρ,Hi,R,(Out.bind ou).imp fun ds Hi2 H2 e2 o2 J gv=>⟨ds,Hi2,e2,gv,o2⟩⟩) fun v s1 h1=>thn h1 fun itv s2 h2=>?_
 obtain ⟨itA,fp,tn,J,H2,rfl,I2,T,st2,f2,ds,Hi2,e2,gv,ou2⟩:=h2
 have hlen:ds.length<=16777215:=by
  by_cases hlen:ds.length<=16777215
  ·exact hlen
  ·rw [if_neg hlen] at ou2;exact ou2.elim
 rw [if_pos hlen] at ou2
 cases hes:gG t f ρ ds with
 | no=>rw [hes] at ou2;exact ou2.elim
 | err c=>exact absurd hes vQ
 | ok es=>
  rw [hes] at ou2
  have R2:jF X G Hi2 H2 σ ρ:=R.grow e2
  refine wpAny_newObj_type (wpAny_newFunctionEnv Bk.cell (by intro y hy;simp at hy) (fun h₁ hns₁ hsb₁=>?_) Bk.kind)
  dsimp only at hns₁ hsb₁ ⊢
  generalize hH2:s2.heap.push { cls:=.type "list", dict:=none,data:=.seq ([]:List Value).toArray }=HP at hns₁ hsb₁ ⊢
  have hC:HP.objs.size=s2.heap.objs.size+1:=by rw [<-hH2,Heap.size_push]
  have hDC:s2.heap.objs.size≠HP.objs.size:=by rw [hC];omega
  have ltC:∀ {b:Addr} {o:Obj},s2.heap.get? b=some o->b≠HP.objs.size:=fun e=>by rw [hC];exact Nat.ne_of_lt (Nat.lt_succ_of_lt (Heap.lt_size e))
  have old:∀ b o,s2.heap.get? b=some o->h₁.get? b=some o:=fun b o e=>hsb₁.extBut b o (ltC e) (Heap.get?_push_of_some _ (hH2 ▸ Heap.get?_push_of_some _ e))
  have hacc:h₁.get? s2.heap.objs.size=some { cls:=.type "list", data:=.seq ([]:List Value).toArray 0 }:=hsb₁.extBut _ _ hDC (Heap.get?_push_of_some _ (hH2 ▸ Heap.get?_push_size _ rfl))
  have hfl:∀ b∈fp,b < s2.heap.objs.size:=fun b hb=>by obtain ⟨o,e,_⟩:=T.obj _ _ st2 b hb;exact Heap.lt_size e
  have IE:=zMi (t:=s2.toks+([]:List (Str×Value)).length) I2 Bk f2 hfl (Nat.le_refl _) (by rw [hC];omega) hDC old hacc hns₁
  have sub:=qF scope.names [] (Bk.cl I2) (fun y c e=>nomatch e)
  have H2D:H2 s2.heap.objs.size=none:=I2.hok.fresh (Nat.le_refl _)
  have HD:H s2.heap.objs.size=none:=e2.h.none H2D
  have Hi2D:Hi2 s2.heap.objs.size=none:=e2.s.none H2D
  generalize hX:cxC X x scope HP.objs.size s2 H2 fp=Y at IE
  have GY:Good Y ⟨G.B,G.Bi,fun _ _=>False⟩ k:=by
   subst hX
   exact ⟨hc.1,hr,fun pins σ H s e s' _ h=>by obtain ⟨_,_,_,_,_,c,_,z⟩:=h;exact z.elim,PassesOwn.never,hc.2⟩
  obtain ⟨hts,hel⟩:=(hX ▸ hb HP.objs.size s2 H2 fp ⟨G.B,G.Bi,fun _ _=>False⟩ (hX.symm ▸ GY):PTs Y ⟨G.B,G.Bi,fun _ _=>False⟩ ifs t/\PEd Y ⟨G.B,G.Bi,fun _ _=>False⟩ elt f)
  have stat:∀ {H':Hp},(∀ b∈fp,H' b=none)->∀ b∈fp,pA Y pins H' b:=fun hn b hb=>by
   subst hX
   refine ⟨hn b hb,?_,fun z=>?_,.inl hb,fun y c e=>(f2 b hb).2.2.2.2.1 y c (sub y c e),(f2 b hb).2.2.2.2.2⟩
   ·show b≠HP.objs.size
    rw [hC];exact Nat.ne_of_lt (Nat.lt_succ_of_lt (hfl b hb))
   ·rcases List.mem_cons.mp (I2.stkSub b z) with w | w
    ·exact (f2 b hb).2.1 w
    ·exact (f2 b hb).2.2.1 w
  have YN:Y.N.Nodup:=by subst hX;exact zDF hN h0 hx0
  have Yx:Y.N[σ.length]?=some x:=by
   subst hX
   show (X.N.map (msk x)++[x])[σ.length]?=some x
   rw [List.getElem?_append_right (by rw [List.length_map,I2.len];omega),List.length_map,I2.len,Nat.sub_self]
   rfl
  have Yl:Y.env.scope.names.lookup x=some .local:=by subst hX;exact lookup_relabel_local Bk.loc
  have Ye:Y.env=compEnvC scope (zBe X.env scope.names []) HP.objs.size X.env:=by subst hX;rfl
  have Yxe:∀ e s,¬ Y.xe e s:=by subst hX;exact fun _ _ h=>h
  have tn1:tn 0 h₁:=T.keep _ _ _ st2 fun b _ o e=>old b o e
  have fP:∀ s3:Shared,s3={ s2 with heap:=h₁,toks:=s2.toks+([]:List (Str×Value)).length }->
    codeAny (model X.prog X.w) X.A (.compLoop (.ListComp elt [⟨.Name x px,iter,ifs,0⟩] scope pos) 0 (.ref itA) (.ref s2.heap.objs.size) Y.env) (compPost (model X.prog X.w) X.A X.xe use Q' (.ref s2.heap.objs.size) HP.objs.size) s3:=by
   rintro s3 rfl
   subst hX
   have fr0:∀ b∈fp,upd H2 s2.heap.objs.size (.lst []) b=none:=fun b hb=>by
    rw [bA (Nat.ne_of_lt (hfl b hb))]
    exact (f2 b hb).1
   refine codeAny_compLoop_tests (fun n s'=>∃ c:CW,n=ds.length - c.i/\CS (cxC X x scope HP.objs.size s2 H2 fp) pins σ tn fp Hi2 H2 s2.heap.objs.size 1 (fun i=>gG t f ρ (ds.drop i)) es c s') ?_ ds.length
    ⟨⟨0,[none],_,Hi2,[],[],es⟩,rfl,⟨IE,rfl,tn1,fr0,(Ext.refl e2.s).trans (Ext.newF e2.s H2D),aW,Hi2D,.nil,Nat.le_refl _,hes,rfl⟩⟩
   ·rintro n s3 ⟨⟨i,vv,H3,Hi3,ys,done,rest⟩,rfl,I3,wd3,st3,fr3,e3,hD3,hiD3,rd3,hl3,hr3,hes3⟩
    dsimp only at I3 wd3 st3 fr3 e3 hD3 hiD3 rd3 hl3 hr3 hes3 ⊢
    obtain ⟨v,rfl⟩:∃ v,vv=[v]:=by
     match vv,wd3 with
     | [v],_=>exact ⟨v,rfl⟩
    obtain ⟨w1,w2⟩:=gv Hi3 H3 e3.i e3.s i
    have lift:∀ {α:Type} {m:Sem α} {Q':α->Shared->Prop} {E:Value->Shared->Prop} {s':Shared},wpAny (model X.prog X.w) X.A m Q' (cxC X x scope HP.objs.size s2 H2 fp).xe s'->wpAny (model X.prog X.w) X.A m Q' E s':=fun h=>wpAny_mono h (fun _ _ z=>z) fun e s z=>(Yxe e s z).elim
    by_cases hlt:i < ds.length
    ·obtain ⟨d,hd⟩:∃ d,ds[i]?=some d:=⟨_,List.getElem?_eq_getElem hlt⟩
     obtain ⟨go,yl⟩:=w2 d hd
     have e4:ds.drop i=d::ds.drop (i+1):=by
      rw [List.getElem?_eq_getElem hlt] at hd
      cases hd
      exact List.drop_eq_getElem_cons hlt
     rw [e4] at hr3
     refine thn (T.item (cxC X x scope HP.objs.size s2 H2 fp) rfl rfl rfl hc.1 i pins s3 _ H3 _ I3 (stat fr3) st3 go) fun r s4 ⟨u,hru,h4⟩=>?_
     subst hru
     refine zJf h4 fun s5 h5=>?_
     obtain ⟨xv,H5,I5,r5,y5,st5,fr5⟩:=h5
     obtain ⟨Hi5,e5,rd5⟩:=yl xv H5 y5
     have I5':=I5.pinned (stat fr5) (T.obj _ _ st5)
     refine wpAny_assign_Name (pI I5' YN Yx (.inl Yl) r5 (fun s6 I6=>?_) (.inr Yl))
     have es6:(σ++[v]).set σ.length (some xv)=σ++[some xv]:=by rw [List.set_append_right _ _ (Nat.le_refl _),Nat.sub_self];rfl
     rw [es6] at I6
     have E5:Ext Hi2 H2 Hi5 H5:=e3.trans e5
     have R5:jF (cxC X x scope HP.objs.size s2 H2 fp) ⟨G.B,G.Bi,fun _ _=>False⟩ Hi5 H5 (σ++[some xv]) (ρ++[.val d]):=Rel.snoc (R2.grow E5) rd5
     obtain ⟨hD5,hiD5⟩:=e5.out hD3 hiD3
     have rd5':=rd3.mono e5.i
     have again:∀ {H8 Hi8:Hp} {ys':List V} {done' rest':List D} {s8:Shared},Inv (cxC X x scope HP.objs.size s2 H2 fp) (pins++rK fp s5.heap) (σ++[some xv]) H8 s8->Ext Hi2 H2 Hi8 H8->H8 s2.heap.objs.size=some (.lst ys')->Hi8 s2.heap.objs.size=none->IsDs X.K Hi8 ys' done'->done'.length<=i+1->
       gG t f ρ (ds.drop (i+1))=.ok rest'->es=done'++rest'->∃ m,m < ds.length - i/\∃ c:CW,m=ds.length - c.i/\CS (cxC X x scope HP.objs.size s2 H2 fp) pins σ tn fp Hi2 H2 s2.heap.objs.size 1 (fun i=>gG t f ρ (ds.drop i)) es c s8:=fun {H8 Hi8 ys' done' rest' s8} I8 E8 a1 a2 a3 a4 a5 a6=>by
      refine ⟨ds.length - (i+1),by omega,⟨i+1,[some xv],H8,Hi8,ys',done',rest'⟩,rfl,⟨I8.unpinned,rfl,T.keep _ _ _ st5 fun b hb o e=>(I8.pin (b,o) (List.mem_append_right _ (List.mem_append_right _ (eD hb e)))).1,fun b hb=>?_,E8,a1,a2,a3,a4,a5,a6⟩⟩
      obtain ⟨o,e,_⟩:=T.obj _ _ st5 b hb
      exact (I8.pin (b,o) (List.mem_append_right _ (List.mem_append_right _ (eD hb e)))).2.1
     rcases zCs hr3 with ⟨ht,hr4⟩ | ⟨ht,e,es',hf,hr4,hee⟩
     ·refine lift (thn (hts _ s6 _ H5 (fun b H'=>b=false/\∃ Hi',Ext Hi5 H5 Hi' H') I6 ⟨_,Hi5,R5,by rw [ht];exact fun Hi' H' e=>⟨rfl,Hi',e⟩⟩) fun b s7 h7=>?_)
      obtain ⟨H7,I7,rfl,Hi7,e7⟩:=h7
      obtain ⟨hD7,hiD7⟩:=e7.out hD5 hiD5
      exact again I7 (E5.trans e7) hD7 hiD7 (rd5'.mono e7.i) (by omega) hr4 hes3
     ·refine lift (thn (hts _ s6 _ H5 (fun b H'=>b=true/\∃ Hi',Ext Hi5 H5 Hi' H') I6 ⟨_,Hi5,R5,by rw [ht];exact fun Hi' H' e=>⟨rfl,Hi',e⟩⟩) fun b s7 h7=>?_)
      obtain ⟨H7,I7,rfl,Hi7,e7⟩:=h7
      obtain ⟨hD7,hiD7⟩:=e7.out hD5 hiD5
      simp only [if_true]
      refine lift (thn (hel _ s7 _ H7 (fun w H'=>∃ Hi',Ext Hi7 H7 Hi' H'/\IsD X.K Hi' w e) I7 ⟨_,Hi7,R5.grow e7,by rw [hf];exact fun Hi' H' ee w hw=>⟨Hi',ee,hw⟩⟩) fun u8 s8 h8=>?_)
      obtain ⟨w8,H8,I8,r8,Hi8,e8,rw8⟩:=h8
      obtain ⟨hD8,hiD8⟩:=e8.out hD7 hiD7
      have rdy:IsDs X.K Hi8 ys done:=(rd5'.mono e7.i).mono e8.i
      refine lift (thn (qQ (X:=(cxC X x scope HP.objs.size s2 H2 fp)) _ s8 _ H8 (.ref s2.heap.objs.size) [w8] (.ref s2.heap.objs.size) [u8] (fun _ H'=>H'=upd H8 s2.heap.objs.size (.lst (ys++[w8]))) I8 rfl (.cons r8 .nil) ⟨_,ys,w8,rfl,rfl,hD8,?_,rfl⟩) fun _ s9 h9=>?_)
      ·rw [rdy.length]
       exact Nat.lt_of_le_of_lt hl3 (Nat.lt_of_lt_of_le hlt (Nat.le_trans hlen (by decide)))
      ·obtain ⟨_,H9,I9,_,rfl⟩:=h9
       refine again I9 (Ext.rewrite ((E5.trans e7).trans e8) H2D hiD8 ⟨_,hD8⟩) aW hiD8 (rdy.snoc rw8) (by rw [List.length_append];exact Nat.succ_le_succ hl3) hr4 ?_
       rw [hes3,hee,List.append_assoc];rfl
    ·rw [List.drop_eq_nil_of_le (by omega),gG] at hr3
     cases hr3
     refine thn (T.done (cxC X x scope HP.objs.size s2 H2 fp) rfl rfl rfl hc.1 i pins s3 _ H3 _ I3 (stat fr3) st3 (w1 (by omega))) fun r s4 ⟨hrn,I4⟩=>?_
     subst hrn
     obtain ⟨m4,hn4,_⟩:=I4.loc
     have fC:H3 HP.objs.size=none:=I4.free
     have nC:∀ b u,H3 b=some u->b≠HP.objs.size:=fun b u e z=>by rw [z,fC] at e;cases e
     have U4:=I4.base
     refine hend HP.objs.size s2.heap.objs.size m4 s4 H3 hn4 (fun h' hs'=>?_) (I2.fpOk (by rw [hC];omega) fC) ?_
     ·have kp:∀ b o,b≠HP.objs.size->s4.heap.get? b=some o->h'.get? b=some o:=fun b o hb e=>hs'.extBut b o hb e
      refine Inv.call' I2 (ch:=fp) I4.os ⟨fun b o e n hb hx=>kp b o (ltC e) (U4.keep b o e n hb hx),fun b o e n hb hx=>?_,U4.free,fun b o e hx=>?_,U4.tups,U4.frzs,U4.tbls⟩ (fun b u e=>?_) I4.bare (fun b hb=>⟨(f2 b hb).2.2.2.1,(f2 b hb).2.1,(f2 b hb).2.2.2.2.1,(f2 b hb).2.2.2.2.2⟩)
      ·obtain ⟨sl,q⟩:=U4.slot b o e n hb hx
       exact ⟨sl,kp b _ (ltC e) q⟩
      ·obtain ⟨o',q⟩:=U4.there b o e hx
       exact ⟨o',kp b _ (ltC e) q⟩
      ·refine (I4.hok b u e).stay (fun c v hc q=>kp c v ?_ q) (fun _ q=>q) fun _ _ q=>q
       rcases hc with z | z
       ·rw [z];exact nC b u e
       ·exact nC c _ z
     ·refine ou2 Hi3 H3 e3 _ ⟨HD,hiD3,ys,hD3,?_⟩
      rw [hes3,List.append_nil]
      exact rd3
  rw [Ye] at fP
  exact codeAny_compStart_list (fP _ rfl) (T.self _ 0 _ _ _ tn1 (fP _ rfl))
theorem zHQ (hc:X.calm=true/\TB X.K X.mg G.Bi G.B) (hr:Room k X.A) (Bk:BlkOk X x scope) (hN:X.N.Nodup) (h0:("" : Str)∉X.N) (hx0:x≠("" : Str)) (hi:PId X G (.Name x px) iter it)
  (hb:∀ (C:Addr) (s₂:Shared) (H₂:Hp) (fp:List Addr) (G':Gx),Good (cxC X x scope C s₂ H₂ fp) G' k->PTs (cxC X x scope C s₂ H₂ fp) G' ifs t/\PEd (cxC X x scope C s₂ H₂ fp) G' elt f)
  (hs:∀ x,foldedSetIterable iter X.env x=pure x:=by intro _;rfl):PEf X G (.ListComp elt [⟨.Name x px,iter,ifs,0⟩] scope pos) (oA it t f):=by
 intro pins s σ H Q I w
 obtain ⟨ρ,Hi,R,ou⟩:=w
 rw [eval_ListComp]
 refine zD hc hr Bk hN h0 hx0 hi hb hs (use:=none) (Qa:=fun a H'=>Q (.ref a) H') I R ou fun C A m s4 H3 hn hI _ q=>?_
 exact ⟨m,hn,fun h' hs'=>⟨.ref A,H3,hI h' hs',rfl,q⟩⟩
def PC (X:Cx) (e:Expr) (t:TE):Prop:=∀ (pins:List (Addr×Obj)) (s:Shared) (σ:St) (H:Hp) (Q:VK),Inv X pins σ H s->t σ H Q->∀ (u:Value->Sem Unit) (Q':Unit->Shared->Prop),
 (∀ (C:Addr) (m:Str->Option Value) (s4:Shared) (v:V) (w:Value) (H3:Hp),s4.heap.Ns C m->(∀ h',Heap.SameBut C s4.heap h'->Inv X pins σ H3 { s4 with heap:=h' })->pA X pins H3 C->cQ v w->Q v H3->
  wpAny (model X.prog X.w) X.A (u w) (fun _ s''=>∃ m,s''.heap.Ns C m/\∀ h',Heap.SameBut C s''.heap h'->Q' () { s'' with heap:=h' }) X.xe s4)->wpAny (model X.prog X.w) X.A (evalThenUse e X.env u) Q' X.xe s
theorem PC.wk {X:Cx} {e:Expr} {t t':TE} (h:PC X e t) (w:∀ σ H Q,t' σ H Q->t σ H Q):PC X e t':=fun pins s σ H Q I q=>h pins s σ H Q I (w σ H Q q)
@[irreducible] def PCd (X:Cx) (G:Gx) (e:Expr) (f:Ev):Prop:=PC X e (tD X G f)
unseal PCd
@[irreducible] def PCf (X:Cx) (G:Gx) (e:Expr) (f:Fv):Prop:=PC X e (tF X G f)
unseal PCf
theorem zHL (hc:X.calm=true/\TB X.K X.mg G.Bi G.B) (hr:Room k X.A) (Bk:BlkOk X x scope) (hN:X.N.Nodup) (h0:("" : Str)∉X.N) (hx0:x≠("" : Str)) (hi:PId X G (.Name x px) iter it)
  (hb:∀ (C:Addr) (s₂:Shared) (H₂:Hp) (fp:List Addr) (G':Gx),Good (cxC X x scope C s₂ H₂ fp) G' k->PTs (cxC X x scope C s₂ H₂ fp) G' ifs t/\PEd (cxC X x scope C s₂ H₂ fp) G' elt f)
  (hs:∀ x,foldedSetIterable iter X.env x=pure x:=by intro _;rfl):PCf X G (.ListComp elt [⟨.Name x px,iter,ifs,0⟩] scope pos) (oA it t f):=by
 intro pins s σ H Q I w u Q' hend
 obtain ⟨ρ,Hi,R,ou⟩:=w
 rw [arm_evalThenUse_ListComp]
 refine wpAny_bind (zD hc hr Bk hN h0 hx0 hi hb hs (use:=some u) (Q':=fun _ s=>wpAny (model X.prog X.w) X.A (pure ()) Q' X.xe s) (Qa:=fun a H'=>Q (.ref a) H') I R ou fun C A m s4 H3 hn hI fo q=>?_)
 refine thn (hend C m s4 (.ref A) (.ref A) H3 hn hI fo rfl q) fun _ s5 h5=>?_
 obtain ⟨m5,hn5,h5⟩:=h5
 exact ⟨m5,hn5,fun h' hs'=>wpAny_pure (h5 h' hs')⟩
theorem PCf.d (h:PCf X G e fs):PCd X G e (eF fs):=PC.wk h fun σ H Q q=>by
 obtain ⟨ρ,Hi,R,ou⟩:=q
 refine ⟨ρ,Hi,R,?_⟩
 cases z:fs ρ with
 | no=>unfold eF at ou;rw [z] at ou;exact ou
 | err c=>unfold eF at ou;rw [z] at ou;exact ou
 | ok ds=>
  unfold eF at ou;rw [z] at ou
  intro Hi1 H1 e1 a n
  obtain ⟨n1,n2,xs,n3,n4⟩:=n
  have o2:∀ Hi' H',Ext Hi H Hi' H'->∀ v,IsD X.K Hi' v (.lst ds)->Q v H':=ou
  exact o2 _ _ (e1.hold n1 n3 n2) (.ref a) (.lst (SqL.of aW) (n4.mono (cU n2 _)))
theorem zJb {i:Nat} {y:Str} {e:Expr} {te:TE} {pos' pos:Pos} (hN:X.N.Nodup) (hi:X.N[i]?=some y) (hx:Loc X.env.scope y) (he:PC X e te) (hs:swapsWith e (some (.Name y pos')) pos.line X.env=pure true)
  (hf:X.fn y=true∨X.env.scope.names.lookup y=some .local):PS X (.Assign [.Name y pos'] e pos) (zMs te (L2.gName i)):=by
 intro pins s σ H E I h
 rw [exec_Assign_Name_used _ _ _ _ hs]
 refine wpAny_bind (wpAny_standAt (wpAny_bind ?_))
 refine he pins s σ H _ I h _ _ fun C m s4 v w H3 hn hI fo r q=>?_
 have I4:Inv X pins σ H3 s4:=hI s4.heap (Heap.SameBut.refl _ _)
 refine wpAny_assign_Name (yU I4 hN hi hx r (fun s5 I5 sb=>?_) hf)
 obtain ⟨a,sb,ha⟩:=sb
 have aC:C≠a:=by
  rcases ha with rfl | ha
  ·exact fo.2.1
  ·exact fun z=>fo.2.2.2.2.1 y a ha z.symm
 refine ⟨m,hn.sameBut sb aC,fun h' hs'=>wpAny_pure ?_⟩
 have fC:=fo.1
 have nC:∀ b u,H3 b=some u->b≠C:=fun b u e z=>by rw [z,fC] at e;cases e
 have kp:∀ b o,b≠C->s5.heap.get? b=some o->h'.get? b=some o:=fun b o hb e=>hs'.extBut b o hb e
 refine ⟨σ.set i (some v),H3,?_,q⟩
 refine Inv.call' I5 (ch:=[C]) rfl ⟨fun b o e n hb hx=>kp b o (by simpa using hx) e,fun b o e n hb hx=>⟨o.slots,kp b _ (by simpa using hx) e⟩,fun b o e n hx=>n,fun b o e hx=>⟨o,kp b _ (by simpa using hx) e⟩,fun _ _ q=>q,fun _ _ _ q=>q,fun _ ps q=>⟨#[],by simpa using q⟩⟩ (fun b u e=>?_) I5.bare (fun b hb=>?_)
 ·refine (I5.hok b u e).stay (fun c v hc q=>kp c v ?_ q) (fun _ q=>q) fun _ _ q=>q
  rcases hc with z | z
  ·rw [z];exact nC b u e
  ·exact nC c _ z
 ·have e:b=C:=by simpa using hb
  subst e
  exact ⟨fo.2.2.2.1,fo.2.1,fo.2.2.2.2.1,fo.2.2.2.2.2⟩
theorem zJO {i:Nat} {y:Str} {e:Expr} {f:Ev} {pos' pos:Pos} (hN:X.N.Nodup) (hi:X.N[i]?=some y) (hx:Loc X.env.scope y) (he:PCd X G e f) (hs:swapsWith e (some (.Name y pos')) pos.line X.env=pure true)
  (hf:X.fn y=true∨X.env.scope.names.lookup y=some .local:=by first | exact .inl rfl | exact .inr rfl | assumption):PSd X G (.Assign [.Name y pos'] e pos) (dU i f):=PS.wk (zJb hN hi hx he hs hf) fun E σ H q=>by
 obtain ⟨ρ,Hi,R,h⟩:=q
 exact ⟨ρ,Hi,R,lS R h fun d Hi' H' _ e h' v r=>h' _ Hi' H' (Same.refl _) ((R.grow e).set r)⟩
end
end L3
namespace L3
open PySem PySem.Spec PyProof.Rows L2
unseal PEd PEf PTd PWd PAd PSd eV POd PGd gW PId PSx kY PTs PCd PCf
def zLA (sc:Scope) (N:List Str) (x:Str) (scope:Scope):Bool:=
 scope.names.all (fun y=>y.2 != .cell) && scope.names.lookup x==some .local && scope.names.all (fun y=>y.2 != .local || scope.names.lookup y.1==some .local)
  && scope.names.all (fun p=>p.2 != .free || (sc.names.lookup p.1==some .cell || sc.names.lookup p.1==some .free)) && N.all (fun y=>y==x || scope.names.lookup y != some .local) && (scope.names.lookup ("" : Str)).isNone && !N.contains ("" : Str) && x != ("" : Str)
section
variable {X:Cx} {G:Gx} {elt iter:Expr} {x:Str} {px pos:Pos} {ifs:List Expr} {scope sc:Scope} {it:Fv} {t:Tv} {f:Ev} {k:Nat} {N:List Str}
theorem zGC (hk:scope.kind=.function) (hsc:X.env.scope=sc) (hN:X.N=N) (h:zLA sc N x scope=true):BlkOk X x scope/\("" : Str)∉X.N/\x≠("" : Str):=by
 unfold zLA at h
 simp only [Bool.and_eq_true] at h
 obtain ⟨⟨⟨⟨⟨⟨⟨h1,h2⟩,h3⟩,h4⟩,h5⟩,h6⟩,h7⟩,h8⟩:=h
 subst hN hsc
 refine ⟨⟨hk,fun y hy e=>?_,beq_iff_eq.mp h2,fun y hy e=>?_,fun p hp e=>?_,fun y hy hne e=>?_,?_⟩,fun z=>?_,fun z=>?_⟩
 ·have:=List.all_eq_true.mp h1 y hy
  rw [e] at this;cases this
 ·have:=List.all_eq_true.mp h3 y hy
  rw [e] at this
  simpa using this
 ·have:=List.all_eq_true.mp h4 p hp
  rw [e] at this
  have q:X.env.scope.names.lookup p.1=some .cell∨X.env.scope.names.lookup p.1=some .free:=by simpa using this
  exact q
 ·have:=List.all_eq_true.mp h5 y hy
  rw [e] at this
  simp [hne] at this
 ·simpa using h6
 ·have:X.N.contains ("" : Str)=true:=by simpa using z
  rw [this] at h7;cases h7
 ·rw [z] at h8;simp at h8
theorem kM (W:Good X G k) (hnd:N.Nodup) (hk:scope.kind=.function) (hsc:X.env.scope=sc) (hN:X.N=N) (h:zLA sc N x scope=true) (hi:PId X G (.Name x px) iter it)
  (hb:∀ (C:Addr) (s₂:Shared) (H₂:Hp) (fp:List Addr) (G':Gx),Good (cxC X x scope C s₂ H₂ fp) G' k->PTs (cxC X x scope C s₂ H₂ fp) G' ifs t/\PEd (cxC X x scope C s₂ H₂ fp) G' elt f)
  (hs:∀ x,foldedSetIterable iter X.env x=pure x:=by intro _;rfl):PEf X G (.ListComp elt [⟨.Name x px,iter,ifs,0⟩] scope pos) (oA it t f):=by
 obtain ⟨b,h0,hx⟩:=zGC hk hsc hN h
 exact zHQ ⟨W.calm,W.tb⟩ W.room b (hN ▸ hnd) h0 hx hi hb hs
theorem zFP (W:Good X G k) (hnd:N.Nodup) (hk:scope.kind=.function) (hsc:X.env.scope=sc) (hN:X.N=N) (h:zLA sc N x scope=true) (hi:PId X G (.Name x px) iter it)
  (hb:∀ (C:Addr) (s₂:Shared) (H₂:Hp) (fp:List Addr) (G':Gx),Good (cxC X x scope C s₂ H₂ fp) G' k->PTs (cxC X x scope C s₂ H₂ fp) G' ifs t/\PEd (cxC X x scope C s₂ H₂ fp) G' elt f)
  (hs:∀ x,foldedSetIterable iter X.env x=pure x:=by intro _;rfl):PCf X G (.ListComp elt [⟨.Name x px,iter,ifs,0⟩] scope pos) (oA it t f):=by
 obtain ⟨b,h0,hx⟩:=zGC hk hsc hN h
 exact zHL ⟨W.calm,W.tb⟩ W.room b (hN ▸ hnd) h0 hx hi hb hs
end
end L3
namespace L3
open PySem PySem.Spec PyProof.Rows L2
unseal PEd PEf PTd PWd PAd PSd eV POd PGd gW PId PSx kY PTs PCd PCf
section
variable {X:Cx} {G:Gx} {a b:Expr} {pos:Pos} {f:Fv} {g:Ev}
theorem IsDs.rep {K:PySem.W.Frag} {H:Hp} {xs:List V} {ds:List D} (h:IsDs K H xs ds):∀ n:Nat,IsDs K H (List.replicate n xs).flatten (List.replicate n ds).flatten
 | 0=>.nil
 | n+1=>by
  rw [List.replicate_succ,List.replicate_succ,List.flatten_cons,List.flatten_cons]
  exact h.append (IsDs.rep h n)
theorem zBp (ha:PEf X G a f) (hb:PEd X G b g):PEf X G (.BinOp a .Mult b pos) (zHS f g):=PE.wk (zDP zJD ha hb) fun σ H Q q=>by
 obtain ⟨ρ,Hi,R,ou⟩:=q
 refine ⟨ρ,Hi,R,(Out.bind ou).imp fun ds Hi1 H1 e1 o1 l nl=>?_⟩
 refine ⟨ρ,Hi1,R.grow e1,(Out.bind o1).imp fun d Hi2 H2 e2 o2 v rv=>?_⟩
 cases d<;>first | exact o2.elim | skip
 rename_i k
 obtain ⟨n1,n2,xs,n3,n4⟩:=nl
 have o2':Out G Hi2 H2 (if 0<=k/\k < 2^62/\ds.length * k.toNat<=16777216 then Res.ok (List.replicate k.toNat ds).flatten else .no) _:=o2
 by_cases hz:0<=k/\k < 2^62/\ds.length * k.toNat<=16777216
 ·rw [if_pos hz] at o2'
  refine ⟨l,k,xs,rfl,rv.intI,e2.h.at n3,by omega,by omega,by rw [n4.length];exact hz.2.2,fun p hp=>?_⟩
  exact o2' _ _ (Ext.newF e2.s hp) p ⟨(e1.h.trans e2.h).none hp,e2.s.none hp,_,aW,(n4.mono e2.i).rep _⟩
 ·rw [if_neg hz] at o2';exact o2'.elim
end
section
variable {es r:List Expr} {a b f:Expr} {k:Nat} {p:Pos} {x:Str} {c:Const} {env:Env}
theorem cJ:starEach (.Tuple es k p::r) env=(false,eval (.Tuple es k p) env)::starEach r env:=rfl
theorem wB:starEach (.List es p::r) env=(false,eval (.List es p) env)::starEach r env:=rfl
theorem bK {o:Operator}:starEach (.BinOp a o b p::r) env=(false,eval (.BinOp a o b p) env)::starEach r env:=rfl
theorem aQ:starEach (.Subscript a b p::r) env=(false,eval (.Subscript a b p) env)::starEach r env:=rfl
theorem aD:starEach (.Name x p::r) env=(false,eval (.Name x p) env)::starEach r env:=rfl
theorem bG:starEach (.Constant c k p::r) env=(false,eval (.Constant c k p) env)::starEach r env:=rfl
theorem aT {ks:List Keyword}:starEach (.Call f es ks p::r) env=(false,eval (.Call f es ks p) env)::starEach r env:=rfl
end
end L3
namespace L3
open PySem PySem.Spec PyProof.Rows L2
unseal PEd PEf PTd PWd PAd PSd eV POd PGd gW PId PSx kY PTs PCd PCf
section
variable {X:Cx} {G:Gx} {e st:Expr} {te tk:TE} {lo hi:Option Expr} {tl th:TO} {pos p2:Pos} {f g:Ev} {l h:Ov}
end
end L3
set_option maxRecDepth 100000
namespace L3
open PySem PySem.Spec PyProof.Rows L2
section
variable {prog:Program} {w:World} {A:Around} {E:Value->Shared->Prop} {s:Shared}
end
theorem zBF:bootBuiltins "reversed" = some (.type "reversed"):=by first | rfl | decide +kernel
section
unseal PEd PEf PTd PWd PAd PSd eV POd PGd gW PId PSx kY PTs PCd PCf
variable {X:Cx} {G:Gx} {fs:Fv} {f:Ev}
end
end L3
namespace L3
open PySem PySem.Spec PyProof.Rows L2
unseal PEd PEf PTd PWd PAd PSd eV POd PGd gW PId PSx kY PTs PCd PCf
section
variable {X:Cx} {G:Gx}
def zMY (K:PySem.W.Frag):List V->Hp->VK->Prop:=fun xs H Q=>∃ (a:Addr) (ns:List Int),xs=[.ref a]/\(SqL K H a (ns.map V.int)∨SqT K H a (ns.map V.int))/\Q (.int ns.sum) H
theorem qK (ns:List Int):∀ j,preSum (fun i=>ns.getD i 0) j=(ns.take j).sum
 | 0=>by rw [List.take_zero];rfl
 | j+1=>by
  rw [preSum,qK ns j,List.take_succ]
  rw [List.getD_eq_getElem?_getD]
  cases ns[j]? with
  | none=>simp
  | some x=>simp
theorem zDy {ns:List Int} {its:List Value} (r:cM (ns.map V.int) its) {i:Nat} {v:Value} (h:its[i]?=some v):∃ t,v=.int (ns.getD i 0) t:=by
 have hl:=r.length
 rw [List.length_map] at hl
 have hi:=(List.getElem?_eq_some_iff.mp h).1
 have hx:(ns.map V.int)[i]?=some (.int (ns.getD i 0)):=by
  rw [List.getElem?_map,List.getD_eq_getElem?_getD,List.getElem?_eq_getElem (by omega)]
  rfl
 obtain ⟨u,hu,ru⟩:=r.get hx
 rw [h] at hu
 cases hu
 exact ru
theorem gU (hc:X.calm=true):sY X (.builtin "sum") (zMY X.K):=by
 intro pins s σ H xs us Q I r h
 obtain ⟨a,ns,rfl,hq,q⟩:=h
 obtain ⟨u,rfl,ru⟩:=r.one
 cases ru
 have hh:=I.ok.hd hc
 rcases hq with hq | hq
 ·obtain ⟨its,rv,p,hz⟩:=I.list hq
  have hlt:a < s.heap.objs.size:=by obtain ⟨_,e,_⟩:=p.isList;exact Heap.lt_size e
  have hl:=rv.length
  rw [List.length_map] at hl
  refine call_sum_walkG (wpAny_pyIter_list p.isList ?_)
  refine ⟨s.heap.objs.size,_,_,_,_,_,fun i=>ns.getD i 0,rfl,Walks.list (A:=X.A.in1) hh s.heap.objs.size a (Nat.ne_of_lt hlt) its.toArray,⟨⟨_,Heap.get?_push_size _ rfl,rfl,rfl⟩,p.isList.push _⟩,fun b hb=>?_,fun i v hv=>zDy rv (by simpa using hv),fun h' tk t' hk=>?_⟩
  ·show b < (s.heap.push _).objs.size
   rw [Heap.size_push]
   rcases List.mem_cons.mp hb with rfl | hb
   ·exact Nat.lt_succ_self _
   ·rcases List.mem_cons.mp hb with rfl | hb
    ·exact Nat.lt_succ_of_lt hlt
    ·cases hb
  ·refine ⟨.int ns.sum,H,I.kept (t':=tk) fun b o e=>hk b o (fun z=>?_) (Heap.get?_push_of_some _ e),⟨t',?_⟩,q⟩
   ·have z':b=s.heap.objs.size:=by simpa using z
    have l:=Heap.lt_size e
    rw [z'] at l
    exact Nat.lt_irrefl _ l
   ·rw [List.size_toArray,<-hl,qK,List.take_length]
 ·obtain ⟨its,rv,p,hz⟩:=I.tuple hq
  have p':s.heap.IsTuple a its.toArray:=p
  have hlt:a < s.heap.objs.size:=by obtain ⟨_,e,_⟩:=p';exact Heap.lt_size e
  have hl:=rv.length
  rw [List.length_map] at hl
  refine call_sum_walkG (wpAny_pyIter_tuple p' ?_)
  refine ⟨s.heap.objs.size,_,_,_,_,_,fun i=>ns.getD i 0,rfl,Walks.tuple (A:=X.A.in1) hh s.heap.objs.size a (Nat.ne_of_lt hlt) its.toArray,⟨⟨_,Heap.get?_push_size _ rfl,rfl,rfl⟩,p'.push _⟩,fun b hb=>?_,fun i v hv=>zDy rv (by simpa using hv),fun h' tk t' hk=>?_⟩
  ·show b < (s.heap.push _).objs.size
   rw [Heap.size_push]
   rcases List.mem_cons.mp hb with rfl | hb
   ·exact Nat.lt_succ_self _
   ·rcases List.mem_cons.mp hb with rfl | hb
    ·exact Nat.lt_succ_of_lt hlt
    ·cases hb
  ·refine ⟨.int ns.sum,H,I.kept (t':=tk) fun b o e=>hk b o (fun z=>?_) (Heap.get?_push_of_some _ e),⟨t',?_⟩,q⟩
   ·have z':b=s.heap.objs.size:=by simpa using z
    have l:=Heap.lt_size e
    rw [z'] at l
    exact Nat.lt_irrefl _ l
   ·rw [List.size_toArray,<-hl,qK,List.take_length]
theorem nI {K:PySem.W.Frag} {H:Hp}:∀ {xs:List V} {ds:List D} {ns:List Int},IsDs K H xs ds->oU ds=some ns->xs=ns.map V.int
 | _,_,ns,.nil,h=>by cases h;rfl
 | _,_,ns,.cons (d:=d) (ds:=ds) r rs,h=>by
  cases d with
  | int i=>
   rw [oU] at h
   cases z:oU ds with
   | none=>rw [z] at h;cases h
   | some ms=>
    rw [z] at h
    cases h
    rw [r.intI,nI rs z]
    rfl
  | _=>cases h
theorem oJ:zAJ X (zMY X.K) xI:=⟨fun a c z=>(by
  unfold xI at z
  split at z
  ·split at z<;>cases z
  ·split at z<;>cases z
  ·cases z),fun Hi H vs ds d Q s r z q=>by
  unfold xI at z
  split at z
  ·split at z
   ·rename_i ns hns
    cases z
    obtain ⟨v,rfl,h⟩:=r.one
    obtain ⟨a,xs,rfl,h1,h2⟩:=h.lstI
    have e:=nI h2 hns
    subst e
    exact ⟨a,ns,rfl,.inl (cK s h1),q _ Hi H (Ext.refl s) (.int _)⟩
   ·cases z
  ·split at z
   ·rename_i ns hns
    cases z
    obtain ⟨v,rfl,h⟩:=r.one
    obtain ⟨a,xs,rfl,h1,h2⟩:=h.tupI
    have e:=nI h2 hns
    subst e
    exact ⟨a,ns,rfl,.inr (cD s h1),q _ Hi H (Ext.refl s) (.int _)⟩
   ·cases z
  ·cases z⟩
theorem fO:bootBuiltins "sum" = some (.builtin "sum"):=by first | rfl | decide +kernel
end
end L3
namespace L3
open PySem PySem.Spec PyProof.Rows L2
unseal PEd PEf PTd PWd PAd PSd eV POd PGd gW PId PSx kY PTs PCd PCf
section
variable {prog:Program} {w:World} {A:Around} {E:Value->Shared->Prop} {s:Shared}
end
section
variable {X:Cx} {G:Gx} {es:List Expr} {pos:Pos}
end
theorem ln0 {α:Type} {us:List α} (h:us.length=0):us=[]:=List.eq_nil_of_length_eq_zero h
theorem ln1 {α:Type} {us:List α} (h:us.length=1):∃ a0:α,us=[a0]:=by
 cases us with
 | nil=>cases h
 | cons a r=>
  cases ln0 (Nat.succ.inj h)
  exact ⟨a,rfl⟩
theorem ln2 {α:Type} {us:List α} (h:us.length=2):∃ a0 a1:α,us=[a0,a1]:=by
 cases us with
 | nil=>cases h
 | cons a r=>
  obtain ⟨a1,rfl⟩:=ln1 (Nat.succ.inj h)
  exact ⟨a,a1,rfl⟩
theorem ln3 {α:Type} {us:List α} (h:us.length=3):∃ a0 a1 a2:α,us=[a0,a1,a2]:=by
 cases us with
 | nil=>cases h
 | cons a r=>
  obtain ⟨a1,a2,rfl⟩:=ln2 (Nat.succ.inj h)
  exact ⟨a,a1,a2,rfl⟩
theorem ln4 {α:Type} {us:List α} (h:us.length=4):∃ a0 a1 a2 a3:α,us=[a0,a1,a2,a3]:=by
 cases us with
 | nil=>cases h
 | cons a r=>
  obtain ⟨a1,a2,a3,rfl⟩:=ln3 (Nat.succ.inj h)
  exact ⟨a,a1,a2,a3,rfl⟩
end L3
namespace L3
open PySem PySem.Spec PyProof.Rows L2
unseal PEd PEf PTd PWd PAd PSd eV POd PGd gW PId PSx kY PTs PCd PCf
section
variable {X:Cx} {G:Gx} {a b c e:Expr} {pos p2:Pos} {f g h:Ev} {fs:Fv} {lo hi:Option Expr} {l u:Ov}
end
end L3
namespace L3
open PySem PySem.Spec PyProof.Rows L2
unseal PEd PEf PTd PWd PAd PSd eV POd PGd gW PId PSx kY PTs PCd PCf
section
variable {X:Cx} {G:Gx} {a b c e:Expr} {pos p2 p:Pos} {f g h:Ev} {fs:Fv} {x:Str}
theorem zKD {bl:List Stmt}:eV X G bl sNo:=fun pins s σ H E I q=>by
 obtain ⟨ρ,Hi,R,ou⟩:=q
 exact ou.elim
def zFs (T:List (Str×Str)):List (Str×KTD.Dat):=T.map fun q=>(q.1,.flat (.str q.2))
structure IsTab (K:PySem.W.Frag) (mg:Str->Option Value) (x:Str) (T:List (Str×Str)) (a:Addr):Prop where
 mg:mg x=some (.ref a)
 tab:∀ h:Heap,K.In h->KTD.TextTab h a (zFs T)
theorem zFi (k:Str):∀ T:List (Str×Str),KTD.datumAt k (zFs T)=(T.lookup k).map fun y=>.flat (.str y)
 | []=>rfl
 | (x,y)::r=>by
  show (if decide (k=x)=true then some (KTD.Dat.flat (.str y)) else KTD.datumAt k (zFs r))=_
  rw [List.lookup_cons]
  by_cases hx:k=x
  ·rw [if_pos (decide_eq_true hx),show (k==x)=true from beq_iff_eq.mpr hx];rfl
  ·rw [if_neg (by simp [hx]),show (k==x)=false from beq_eq_false_iff_ne.mpr hx];exact zFi k r
theorem zEz (k:Str) (T:List (Str×Str)):KTD.inKeys k (zFs T)=(T.lookup k).isSome:=by
 rw [<-KTD.isSome_datumAt,zFi,Option.isSome_map]
theorem zGP {T:List (Str×Str)} {ad:Addr} (t:IsTab X.K X.mg x T ad) (hg:Gl X x) (hd:(x==("__debug__" : Str))=false:=by decide):PE X (.Name x p) (tC (.ref ad)):=zDp hg t.mg rfl hd
theorem zEt {T:List (Str×Str)} {ad:Addr} (t:IsTab X.K X.mg x T ad):OpR X (compareOp .NotIn) (fun v y H Q=>∃ k,v=.str k/\y=.ref ad/\Q (.bl (!(T.lookup k).isSome)) H):=by
 intro pins s σ H v y u w Q I rx ry h
 obtain ⟨k,rfl,rfl,q⟩:=h
 obtain ⟨tk,rfl⟩:=rx
 cases ry
 refine KTD.notin_text ⟨t.tab s.heap I.kIn,fun _ _ e=>e⟩ ?_
 rw [zEz]
 exact ⟨.bl _,H,I.tok _,rfl,q⟩
theorem yT {h₀:Heap} {k:Str} {P:Value->Prop}:∀ {T:List (Str×Str)},(∀ z t,T.lookup k=some z->P (.str z t))->KTD.EachL h₀ k P (zFs T)
 | [],_=>trivial
 | [(x,y)],hP=>fun hk t=>hP y t (by rw [List.lookup_cons,show (k==x)=true from beq_iff_eq.mpr hk])
 | (x,y)::q::r,hP=>by
  show if decide (k=x)=true then KTD.Opened h₀ P (.flat (.str y)) else KTD.EachL h₀ k P (zFs (q::r))
  by_cases hk:k=x
  ·rw [if_pos (decide_eq_true hk)]
   exact fun t=>hP y t (by rw [List.lookup_cons,show (k==x)=true from beq_iff_eq.mpr hk])
  ·rw [if_neg (by simp [hk])]
   exact yT fun z t hz=>hP z t (by rw [List.lookup_cons,show (k==x)=false from beq_eq_false_iff_ne.mpr hk];exact hz)
theorem zCX (T:List (Str×Str)):((zFs T).all fun q=>KTD.plain q.2)=true:=by
 unfold zFs
 rw [List.all_map]
 exact List.all_eq_true.mpr fun _ _=>rfl
theorem zLq {T:List (Str×Str)} {ad:Addr} (t:IsTab X.K X.mg x T ad):IxR X (fun v y H Q=>∃ k z,v=.ref ad/\y=.str k/\T.lookup k=some z/\Q (.str z) H):=by
 intro value slice pins s σ H v y u w Q I rx ry h hs
 obtain ⟨k,z,rfl,rfl,hk,q⟩:=h
 cases rx
 obtain ⟨tk,rfl⟩:=ry
 refine KTD.item_textA ⟨t.tab s.heap I.kIn,fun _ _ e=>e⟩ (zCX T) (by rw [zEz,hk];rfl) ?_ hs
 refine yT fun z' t' hz=>?_
 rw [hk] at hz
 cases hz
 exact ⟨.str _,H,I.tok _,⟨_,rfl⟩,q⟩
theorem unT {o:D->Res D} {r:R2} {y:V} (hr:∀ (Hi H:Hp) (v:V) (d:D) (Q:VK),IsD X.K Hi v d->Same Hi H->(∃ d',o d=.ok d'/\(∀ w Hi' H',Ext Hi H Hi' H'->IsD X.K Hi' w d'->Q w H'))->r v y H Q)
  (he:∀ d c,o d≠.err c):∀ σ H Q,tD X G (eUn o f) σ H Q->tOp r (tD X G f) (tC y) σ H Q:=fun σ H Q q=>by
 obtain ⟨ρ,Hi,R,ou⟩:=q
 refine zAP R ou fun v d Hi1 H1 e1 R1 r1 o1=>?_
 cases z:o d with
 | no=>rw [z] at o1;exact o1.elim
 | err c=>exact absurd z (he d c)
 | ok d'=>rw [z] at o1;exact hr Hi1 H1 v d Q r1 R1.s ⟨d',z,fun w Hi' H' e1 r1=>o1 Hi' H' e1 w r1⟩
theorem zJP {T:List (Str×Str)} {ad:Addr}:∀ σ H Q,tD X G (eUn (nZ T) f) σ H Q->tOp (fun v y H Q=>∃ k,v=.str k/\y=.ref ad/\Q (.bl (!(T.lookup k).isSome)) H) (tD X G f) (tC (.ref ad)) σ H Q:=
 unT (fun Hi H v d Q r s h=>by
  obtain ⟨d',z,q⟩:=h
  unfold nZ at z
  split at z
  ·cases z;exact ⟨_,r.strI,rfl,q _ Hi H (Ext.refl s) (.bl _)⟩
  ·cases z) fun d c z=>by unfold nZ at z;split at z<;>cases z
theorem zLa {op:CmpOp} {o:D->Res D} {r:R2} {y:V} (hp:PT X (.Compare a [op] [b] pos) (zJE (tOp r (tD X G f) (tC y)))) (hu:∀ σ H Q,tD X G (eUn o f) σ H Q->tOp r (tD X G f) (tC y) σ H Q):PTd X G (.Compare a [op] [b] pos) (dR (eUn o f)):=
 PT.wk hp fun σ H Q q=>by
  obtain ⟨ρ,Hi,R,ou⟩:=q
  refine hu σ H _ ⟨ρ,Hi,R,ou.bind.imp fun d Hi' H' e o v r=>?_⟩
  cases d with
  | bl c=>rw [r.blI];exact ⟨c,rfl,o.here e.s⟩
  | _=>exact o.elim
theorem zFD {T:List (Str×Str)} {ad:Addr} (t:IsTab X.K X.mg x T ad) (hg:Gl X x) (ha:PEd X G a f) (hm:behindInMarks .NotIn (.Name x p)=false) (hd:(x==("__debug__" : Str))=false:=by decide):PTd X G (.Compare a [.NotIn] [.Name x p] pos) (dR (eUn (nZ T) f)):=
 zLa (zCZ (zEt t) ha (zGP t hg hd) hm) zJP
theorem zGS {T:List (Str×Str)} {ad:Addr} (t:IsTab X.K X.mg x T ad) (hg:Gl X x) (hb:PEd X G b g) (hs:zAw b) (hd:(x==("__debug__" : Str))=false:=by decide):PEd X G (.Subscript (.Name x p) b pos) (eUn (rO T) g):=
 PE.wk (zCy (zLq t) (zGP t hg hd) hb hs) fun σ H Q q=>by
  obtain ⟨ρ,Hi,R,ou⟩:=q
  refine zAP R ou fun v d Hi1 H1 e1 R1 r1 o1=>?_
  cases d with
  | str k=>
   have o2:Out G Hi1 H1 (zJo (T.lookup k)) _:=o1
   cases z:T.lookup k with
   | none=>rw [z] at o2;exact o2.elim
   | some y=>rw [z] at o2;exact ⟨k,y,rfl,r1.strI,z,o2.here R1.s _ (.str _)⟩
  | _=>exact o1.elim
end
end L3
namespace L3
open PySem PySem.Spec PyProof.Rows L2
unseal PEd PEf PTd PWd PAd PSd eV POd PGd gW PId PSx kY PTs PCd PCf
section
variable {prog:Program} {w:World} {A:Around} {R:Result->Shared->Prop} {I:Addr} {fp wr:List Addr} {n:Nat} {P:Nat->Value->Prop} {St:Nat->Heap->Prop} {kw:List (Str×Value)}
end
section
variable {X:Cx} {G:Gx} {a c:Expr} {pos p kp:Pos} {f g:Ev}
end
end L3
namespace L3
open PySem PySem.Spec PyProof.Rows L2
unseal PEd PEf PTd PWd PAd PSd eV POd PGd gW PId PSx kY PTs PCd PCf
section
variable {X:Cx} {G:Gx} {e:Expr} {pos:Pos} {f:Ev}
end
end L3
namespace L2
open PySem PySem.Spec PyProof.Rows
section
variable {κ:Type} [DecidableEq κ]
end
abbrev KT (H:Hp):List (List Key×V)->List (List Key×Addr×Value)->Prop:=Paired fun p q=>p.1=q.1/\H q.2.1=some (.tup (p.1.map kV))/\cQ p.2 q.2.2
section
variable {P:Program} {w:World} {H:Hp} {h:Heap} {a:Addr}
end
section
variable {X:Cx} {pins:List (Addr×Obj)} {σ:St} {H:Hp} {s:Shared} {a:Addr} {y v:V} {u r:Value} {o:Option V} {A:Around} {E:Value->Shared->Prop}
end
section
variable {X:Cx} {pins:List (Addr×Obj)} {σ:St} {H:Hp} {s:Shared} {a:Addr} {kvs:List (Key×V)} {k:Key} {u:Value} {A:Around} {E:Value->Shared->Prop}
end
section
variable {X:Cx} {o i e value:Expr} {pos pos' tpos:Pos} {td ty tv:TE}
end
section
variable {X:Cx} {pos:Pos}
end
end L2
namespace L3
open PySem PySem.Spec PyProof.Rows L2
unseal PEd PEf PTd PWd PAd PSd eV POd PGd gW PId PSx kY PTs PCd PCf
section
variable {X:Cx} {G:Gx} {a b c e:Expr} {pos p2 p:Pos} {f g h:Ev} {fs:Fv} {x:Str}
end
end L3
namespace L3
open PySem PySem.Spec PyProof.Rows L2
def itN (k:Bool):String:=if k then "list_iterator" else "tuple_iterator"
def zBy (k:Bool) (h:Heap) (it l:Addr) (i:Nat):Prop:=if k then h.IsListIter it l i else h.IsTupleIter it l i
def rZ (k:Bool) (h:Heap) (l:Addr) (xs:Array Value):Prop:=if k then h.IsList l xs else h.IsTuple l xs
theorem zBy.get {k:Bool} {h:Heap} {it l:Addr} {i:Nat} (x:zBy k h it l i):∃ o,h.get? it=some o/\o.cls=.type (itN k)/\o.data=.fields #[.ref l,.int i 0]:=by
 cases k<;>(obtain ⟨o,a,b,c⟩:=x;exact ⟨o,a,b,c⟩)
theorem zBy.mk {k:Bool} {h:Heap} {it l:Addr} {i:Nat} {o:Obj} (a:h.get? it=some o) (b:o.cls=.type (itN k)) (c:o.data=.fields #[.ref l,.int i 0]):zBy k h it l i:=by
 cases k<;>exact ⟨o,a,b,c⟩
theorem zBy.go {k:Bool} {h h':Heap} {it l:Addr} {i:Nat} (x:zBy k h it l i) (g:∀ o,h.get? it=some o->h'.get? it=some o):zBy k h' it l i:=by
 obtain ⟨o,a,b,c⟩:=x.get
 exact .mk (g o a) b c
theorem rZ.go {k:Bool} {h h':Heap} {l:Addr} {xs:Array Value} (x:rZ k h l xs) (g:∀ o,h.get? l=some o->h'.get? l=some o):rZ k h' l xs:=by
 cases k<;>(obtain ⟨o,a,b⟩:=x;exact ⟨o,g o a,b⟩)
section
variable {prog:Program} {w:World} {A:Around} {E:Value->Shared->Prop} {s:Shared}
theorem zEI {k:Bool} {l:Addr} {xs:Array Value} {Q:Value->Shared->Prop} (hl:rZ k s.heap l xs) (hQ:Q (.ref s.heap.objs.size) { s with heap:=s.heap.push { cls:=.type (itN k),data:=.fields #[.ref l,.int 0 0] } }):
  wpAny (model prog w) A (pyIter (.ref l)) Q E s:=by
 cases k
 ·exact wpAny_pyIter_tuple hl hQ
 ·exact wpAny_pyIter_list hl hQ
theorem nxT {it t:Addr} {i:Nat} {items:Array Value} {Q:Value->Shared->Prop} (hh:A.handled=none∨(items[i]?).isSome=true) (x:s.heap.IsTupleIter it t i) (y:s.heap.IsTuple t items)
  (go:∀ v,items[i]?=some v->∀ h2,h2.IsTupleIter it t (i+1)->Heap.SameBut it s.heap h2->Q v { s with heap:=h2 })
  (stop:items[i]?=none->∀ h2 e,Heap.ExtBut it s.heap h2->(∃ ob,h2.get? e=some ob/\ob.cls=.type "StopIteration")->E (.ref e) { s with heap:=h2 }):wpAny (model prog w) A (Builtin.SmallTypes.nextOf (.ref it)) Q E s:=by
 obtain ⟨oi,ei,ci,di⟩:=id x
 obtain ⟨ot,et,_,nt,dt⟩:=y
 have nn:¬ ((Value.ref t==Value.none)=true):=Bool.false_ne_true
 unfold Builtin.SmallTypes.nextOf
 refine wpAny_bind (wpAny_callSpecial?_slot (name:=Str.ofString "__next__") x.typeIs F.slot_tuple_iterator_next (wpAny_call_entry F.slot_tuple_iterator_next x.typeIs F.entry_tuple_iterator_next (show wpAny _ _ (field _ 0 >>= _) _ _ s from wpAny_bind (wpAny_field ei di (x:=.ref t) rfl ?_)) (F.args_tuple_iterator_next_1 _)))
 show wpAny _ _ (ite ((Value.ref t==Value.none)=true) _ _) _ _ s
 rw [if_neg nn]
 refine show wpAny _ _ (field _ 1 >>= _) _ _ s from wpAny_bind (wpAny_field ei di (x:=.int i 0) rfl (show wpAny _ _ (seqItems? _ >>= _) _ _ s from wpAny_bind (wpAny_seqItems et dt ?_)))
 have fr:∀ g:Array Value->Array Value,Heap.get? (s.heap.update it (Obj.mapFields g)) it=some (Obj.mapFields g oi):=fun g=>Heap.get?_update_self _ ei (Obj.isFreed_of_fields (Obj.data_mapFields di g))
 cases q:items[i]? with
 | some v=>
  simp only [Int.toNat_natCast,q]
  refine wpAny_bind (wpAny_setField ei di (by simp) (wpAny_pure ⟨v,rfl,wpAny_pure (go v q _ ⟨_,fr _,(Obj.cls_mapFields ..).trans ci,?_⟩ (Heap.SameBut.update ..))⟩))
  rw [Obj.data_mapFields di]
  simp [rawInt]
 | none=>
  have hh:A.handled=none:=hh.elim id fun z=>by rw [q] at z;cases z
  simp only [Int.toNat_natCast,q]
  refine wpAny_bind (wpAny_rule (wpAny_bind (wpAny_setField ei di (by simp) (show wpAny _ _ (newExc _ [] >>= _) _ _ _ from wpAny_bind ?_))))
  simp only [newExc,newTuple]
  refine wpAny_bind (wpAny_newObj_type (wpAny_bind (m:=firstArgMember _ _) (wpAny_of_eq (a:=Value.none) (by first | rfl | (simp only [firstArgMember];rfl)) (wpAny_newObj_type ?_ (by size_fits)))) (by size_fits))
  simp only [raiseNew]
  refine wpAny_bind (wpAny_handled ?_)
  rw [show A.in1.handled=none from hh]
  exact wpAny_bind (wpAny_pure (wpAny_throw (stop q _ _ (((Heap.SameBut.update ..).extBut.push _).push _) ⟨_,Heap.get?_push_size _ rfl,rfl⟩)))
theorem zEP {k:Bool} {it t:Addr} {i:Nat} {items:Array Value} {x:Value} {Q:Value->Shared->Prop} (hit:zBy k s.heap it t i) (ht:rZ k s.heap t items) (hx:items[i]?=some x)
  (hQ:∀ h',zBy k h' it t (i+1)->Heap.SameBut it s.heap h'->Q x { s with heap:=h' }):wpAny (model prog w) A (Builtin.SmallTypes.nextOf (.ref it)) Q E s:=by
 cases k
 ·exact nxT (.inr (by rw [hx];rfl)) hit ht (fun v q h2 g1 g2=>by rw [hx] at q;cases q;exact hQ h2 g1 g2) fun q=>by rw [hx] at q;cases q
 ·exact wpAny_nextOf_list_item hit ht hx hQ
theorem zGv {k:Bool} {it t:Addr} {i:Nat} {items:Array Value} {Q:Value->Shared->Prop} (hh:A.handled=none) (hit:zBy k s.heap it t i) (ht:rZ k s.heap t items) (hx:items[i]?=none)
  (hE:∀ h' e,Heap.ExtBut it s.heap h'->(∃ o,h'.get? e=some o/\o.cls=.type "StopIteration")->E (.ref e) { s with heap:=h' }):wpAny (model prog w) A (Builtin.SmallTypes.nextOf (.ref it)) Q E s:=by
 cases k
 ·exact nxT (.inl hh) hit ht (fun v q=>by rw [hx] at q;cases q) fun _=>hE
 ·exact wpAny_nextOf_list_end hh hit ht hx hE
def tW (f0:Value) (k1 k2:Bool) (l1 l2 n:Addr) (j1 j2:Nat) (h:Heap):Prop:=
 IsZip h (n+4) (n+2) (n+3) f0/\IsPair h (n+2) (.ref n) (.ref (n+1))/\(∃ a b,IsPair h (n+3) a b)/\zBy k1 h n l1 j1/\zBy k2 h (n+1) l2 j2
def lN (n:Addr) (h h2:Heap):Prop:=∀ c o,c≠n+4->c≠n+3->c≠n->c≠n+1->h.get? c=some o->h2.get? c=some o
theorem lN.then {n:Addr} {h h1 h2:Heap} (a:lN n h h1) (b:lN n h1 h2):lN n h h2:=fun c o c1 c2 c3 c4 e=>b c o c1 c2 c3 c4 (a c o c1 c2 c3 c4 e)
theorem lN.eb {n a:Addr} {h h2:Heap} (k:Heap.ExtBut a h h2) (m:a=n+4∨a=n+3∨a=n∨a=n+1):lN n h h2:=fun c o c1 c2 c3 c4 e=>k c o (fun z=>by subst z;rcases m with m | m | m | m<;>contradiction) e
theorem lN.sq {k:Bool} {n l:Addr} {h h2:Heap} {xs:Array Value} (a:lN n h h2) (hl:l < n) (x:rZ k h l xs):rZ k h2 l xs:=
 x.go fun o e=>a l o (Nat.ne_of_lt (Nat.lt_add_right 4 hl)) (Nat.ne_of_lt (Nat.lt_add_right 3 hl)) (Nat.ne_of_lt hl) (Nat.ne_of_lt (Nat.lt_succ_of_lt hl)) e
theorem zGl (n:Addr):n+3≠n+4/\n+2≠n+4/\n≠n+4/\n+1≠n+4/\n+2≠n+3/\n≠n+3/\n+1≠n+3/\n+2≠n/\n+1≠n/\n+2≠n+1:=by
 refine ⟨?_,?_,?_,?_,?_,?_,?_,?_,?_,?_⟩<;>(intro z;have z':(_:Nat)=_:=z;omega)
theorem tW.fld {f0:Value} {k1 k2:Bool} {l1 l2 n:Addr} {j1 j2:Nat} {h h2:Heap} (g:tW f0 k1 k2 l1 l2 n j1 j2 h) {f1:Value} (z:IsZip h2 (n+4) (n+2) (n+3) f1) (s:Heap.ExtBut (n+4) h h2):tW f1 k1 k2 l1 l2 n j1 j2 h2:=by
 obtain ⟨_,g2,⟨a,b,g3⟩,g4,g5⟩:=g
 obtain ⟨e1,e2,e3,e4,_⟩:=zGl n
 exact ⟨z,s _ _ e2 g2,⟨a,b,s _ _ e1 g3⟩,g4.go fun o e=>s _ o e3 e,g5.go fun o e=>s _ o e4 e⟩
theorem tW.it1 {f0:Value} {k1 k2:Bool} {l1 l2 n:Addr} {j1 j2 m:Nat} {h h2:Heap} (g:tW f0 k1 k2 l1 l2 n j1 j2 h) (z:zBy k1 h2 n l1 m) (s:Heap.ExtBut n h h2):tW f0 k1 k2 l1 l2 n m j2 h2:=by
 obtain ⟨g1,g2,⟨a,b,g3⟩,_,g5⟩:=g
 obtain ⟨e1,e2,e3,e4,e5,e6,e7,e8,e9,_⟩:=zGl n
 exact ⟨s _ _ e3.symm g1,s _ _ e8 g2,⟨a,b,s _ _ e6.symm g3⟩,z,g5.go fun o e=>s _ o e9 e⟩
theorem tW.it2 {f0:Value} {k1 k2:Bool} {l1 l2 n:Addr} {j1 j2 m:Nat} {h h2:Heap} (g:tW f0 k1 k2 l1 l2 n j1 j2 h) (z:zBy k2 h2 (n+1) l2 m) (s:Heap.ExtBut (n+1) h h2):tW f0 k1 k2 l1 l2 n j1 m h2:=by
 obtain ⟨g1,g2,⟨a,b,g3⟩,g4,_⟩:=g
 obtain ⟨e1,e2,e3,e4,e5,e6,e7,e8,e9,e10⟩:=zGl n
 exact ⟨s _ _ e4.symm g1,s _ _ e10 g2,⟨a,b,s _ _ e7.symm g3⟩,g4.go fun o e=>s _ o e9.symm e,z⟩
theorem tW.out {f0 a b:Value} {k1 k2:Bool} {l1 l2 n:Addr} {j1 j2:Nat} {h h2:Heap} (g:tW f0 k1 k2 l1 l2 n j1 j2 h) (z:IsPair h2 (n+3) a b) (s:Heap.ExtBut (n+3) h h2):tW f0 k1 k2 l1 l2 n j1 j2 h2:=by
 obtain ⟨g1,g2,_,g4,g5⟩:=g
 obtain ⟨e1,e2,e3,e4,e5,e6,e7,_⟩:=zGl n
 exact ⟨s _ _ e1.symm g1,s _ _ e5 g2,⟨a,b,z⟩,g4.go fun o e=>s _ o e6 e,g5.go fun o e=>s _ o e7 e⟩
theorem zNw {k1 k2:Bool} {n l1 l2:Addr} {j:Nat} {xs ys:Array Value} {Q:PySem.Fin->Shared->Prop} (hh:A.handled=none) (b1:l1 < n) (b2:l2 < n) (g:tW .none k1 k2 l1 l2 n j j s.heap) (d1:rZ k1 s.heap l1 xs) (d2:rZ k2 s.heap l2 ys)
  (go:∀ x y,xs[j]?=some x->ys[j]?=some y->∀ h2,tW (rawInt s.heap.objs.size) k1 k2 l1 l2 n (j+1) (j+1) h2->IsPair h2 s.heap.objs.size x y->lN n s.heap h2->Q (.done (.ret (.ref s.heap.objs.size))) { s with heap:=h2 })
  (stop:xs[j]?=none∨ys[j]?=none->∀ h2 e,lN n s.heap h2->(∃ o,h2.get? e=some o/\o.cls=.type "StopIteration")->E (.ref e) { s with heap:=h2 }):
  wpAny (model prog w) A (Builtin.«zip.__next__» ⟨[.ref (n+4)],[]⟩) Q E s:=by
 have stopZ:∀ {h1:Heap} {e:Addr} {v:Value} {k:Nat} {R:Unit->Shared->Prop},(xs[j]?=none∨ys[j]?=none)->lN n s.heap h1->IsZip h1 (n+4) (n+2) (n+3) .ellipsis->(∃ o,h1.get? e=some o/\o.cls=.type "StopIteration")->k < 5->
   (∀ h3,lN n s.heap h3->(∃ o,h3.get? e=some o/\o.cls=.type "StopIteration")->R () { s with heap:=h3 })->wpAny (model prog w) A (setField (.ref (n+4)) k v) R E { s with heap:=h1 }:=by
  intro h1 e v k R q kz z he hk fin
  obtain ⟨oe,e1,e2⟩:=he
  have nz:e≠n+4:=fun y=>by subst y;rw [z] at e1;cases e1;simp at e2
  exact wpAny_setField_rec z (by simpa using hk) fun h3 _ s3=>fin h3 (kz.then (.eb s3.extBut (.inl rfl))) ⟨oe,s3.extBut _ _ nz e1,e2⟩
 obtain ⟨z0,t0,⟨a,b,p0⟩,_⟩:=id g
 refine show wpAny _ _ (field _ 2 >>= _) _ _ s from wpAny_bind (wpAny_field z0 rfl (x:=.bool false) rfl (show wpAny _ _ (field _ 3 >>= _) _ _ s from wpAny_bind (wpAny_field z0 rfl (x:=.ref (n+2)) rfl (wpAny_bind (wpAny_seqItems t0 rfl (wpAny_bind ?_))))))
 unfold Builtin.SmallTypes.ownedTupleIsFree
 refine wpAny_bind (wpAny_field z0 rfl (x:=.none) rfl (wpAny_pure ?_))
 simp only [if_true]
 refine wpAny_bind (wpAny_rule (wpAny_bind (wpAny_field z0 rfl (x:=.ref (n+3)) rfl (wpAny_bind (wpAny_setField_rec z0 (by simp) fun h1 z1 s1=>wpAny_bind ?_)))))
 have g1:tW .ellipsis k1 k2 l1 l2 n j j h1:=g.fld z1 s1.extBut
 have k1':lN n s.heap h1:=.eb s1.extBut (.inl rfl)
 simp only [List.zipIdx_cons,List.zipIdx_nil,List.forIn_cons,List.forIn_nil]
 refine wpAny_bind (wpAny_bind (wpAny_onRaise (show wpAny _ _ (Builtin.SmallTypes.nextOf _ >>= _) _ _ _ from wpAny_bind ?_)))
 cases q1:xs[j]? with
 | none=>
  refine zGv (s:={ s with heap:=h1 }) hh g1.2.2.2.1 (k1'.sq b1 d1) q1 fun h2 e x2 he=>stopZ (.inl q1) (k1'.then (.eb x2 (.inr (.inr (.inl rfl))))) (x2 _ _ (zGl n).2.2.1.symm g1.1) he (by decide) fun h3=>stop (.inl q1) h3 e
 | some x=>
  refine zEP (s:={ s with heap:=h1 }) g1.2.2.2.1 (k1'.sq b1 d1) q1 fun h2 i2 s2=>wpAny_pure ?_
  have g2:=g1.it1 i2 s2.extBut
  have k2':=k1'.then (.eb s2.extBut (.inr (.inr (.inl rfl))))
  have p2:IsPair h2 (n+3) a b:=s2.extBut _ _ (zGl n).2.2.2.2.2.1.symm (s1.extBut _ _ (zGl n).1 p0)
  refine wpAny_bind (wpAny_seqItems (s:={ s with heap:=h2 }) p2 rfl (wpAny_bind (wpAny_updateSeq_pair p2 fun h3 p3 s3=>wpAny_bind (wpAny_letGo (wpAny_pure ?_)))))
  have g3:=g2.out p3 s3.extBut
  have k3':=k2'.then (.eb s3.extBut (.inr (.inl rfl)))
  refine wpAny_bind (wpAny_bind (wpAny_onRaise (show wpAny _ _ (Builtin.SmallTypes.nextOf _ >>= _) _ _ _ from wpAny_bind ?_)))
  cases q2:ys[j]? with
  | none=>
   refine zGv (s:={ s with heap:=h3 }) hh g3.2.2.2.2 (k3'.sq b2 d2) q2 fun h4 e x4 he=>stopZ (.inr q2) (k3'.then (.eb x4 (.inr (.inr (.inr rfl))))) (x4 _ _ (zGl n).2.2.2.1.symm g3.1) he (by decide) fun h5=>stop (.inr q2) h5 e
  | some y=>
   refine zEP (s:={ s with heap:=h3 }) g3.2.2.2.2 (k3'.sq b2 d2) q2 fun h4 i4 s4=>wpAny_pure ?_
   have g4:=g3.it2 i4 s4.extBut
   have p4:IsPair h4 (n+3) x b:=s4.extBut _ _ (zGl n).2.2.2.2.2.2.1.symm p3
   refine wpAny_bind (wpAny_seqItems (s:={ s with heap:=h4 }) p4 rfl (wpAny_bind (wpAny_updateSeq_pair p4 fun h5 p5 s5=>wpAny_bind (wpAny_letGo (wpAny_pure (wpAny_pure ?_))))))
   have p5:IsPair h5 (n+3) x y:=p5
   have g5:=g4.out p5 s5.extBut
   have k5':=(k3'.then (.eb s4.extBut (.inr (.inr (.inr rfl))))).then (.eb s5.extBut (.inr (.inl rfl)))
   have sz:h5.objs.size=s.heap.objs.size:=s5.1.trans (s4.1.trans (s3.1.trans (s2.1.trans s1.1)))
   refine wpAny_bind (wpAny_seqItems (s:={ s with heap:=h5 }) p5 rfl (wpAny_bind (wpAny_newTuple (show wpAny _ _ (Builtin.SmallTypes.ownedTupleHandOut _ (.ref h5.objs.size) >>= _) _ _ _ from wpAny_bind ?_))))
   unfold Builtin.SmallTypes.ownedTupleHandOut
   refine wpAny_bind (wpAny_setField_rec (Heap.get?_push_of_some _ g5.1) (by simp) fun h7 z7 s7=>wpAny_setField_rec z7 (by simp) fun h8 z8 s8=>wpAny_pure ?_)
   have nz:h5.objs.size≠n+4:=Nat.ne_of_gt (Heap.lt_size g5.1)
   have x8:Heap.ExtBut (n+4) h5 h8:=fun c o c1 e=>s8.extBut _ _ c1 (s7.extBut _ _ c1 (Heap.get?_push_of_some _ e))
   have g8:tW (rawInt h5.objs.size) k1 k2 l1 l2 n (j+1) (j+1) h8:=g5.fld z8 x8
   have t8:IsPair h8 h5.objs.size x y:=s8.extBut _ _ nz (s7.extBut _ _ nz (Heap.get?_push_size _ rfl))
   rw [sz] at g8 t8
   show Q (.done (.ret (.ref h5.objs.size))) _
   rw [sz]
   exact go x y q1 q2 h8 g8 t8 (k5'.then (.eb x8 (.inl rfl)))
theorem zMG {k1 k2:Bool} {n l1 l2:Addr} {j:Nat} {xs ys:Array Value} {Q:Option Value->Shared->Prop} (hh:A.handled=none) (b1:l1 < n) (b2:l2 < n) (g:tW .none k1 k2 l1 l2 n j j s.heap) (d1:rZ k1 s.heap l1 xs) (d2:rZ k2 s.heap l2 ys)
  (go:∀ x y,xs[j]?=some x->ys[j]?=some y->∀ h2,tW (rawInt s.heap.objs.size) k1 k2 l1 l2 n (j+1) (j+1) h2->IsPair h2 s.heap.objs.size x y->lN n s.heap h2->Q (some (.ref s.heap.objs.size)) { s with heap:=h2 })
  (stop:xs[j]?=none∨ys[j]?=none->∀ h2,lN n s.heap h2->Q none { s with heap:=h2 }):wpAny (model prog w) A (pyNext (.ref (n+4))) Q E s:=by
 have ty:s.TypeIs (.ref (n+4)) "zip" := ⟨_,g.1,rfl⟩
 unfold pyNext
 refine wpAny_bind (wpAny_attempt (wpAny_callSpecial?_slot (name:=Str.ofString "__next__") ty F.slot_zip_next (wpAny_call_entry F.slot_zip_next ty F.entry_zip_next
  (zNw hh b1 b2 g d1 d2 (fun x y q1 q2 h2 a1 a2 a3=>⟨_,rfl,wpAny_pure (go x y q1 q2 h2 a1 a2 a3)⟩) fun q h2 e k he=>?_) (F.args_zip_next_1 _))))
 obtain ⟨o,eo,co⟩:=he
 exact wpAny_bind (wpAny_isInstance (T := "StopIteration") (b:=true) ⟨o,eo,co⟩ isSubtype_stop (wpAny_pure (stop q h2 k)))
end
abbrev zO (k:Bool) (l:Addr):Obj:={ cls:=.type (itN k),data:=.fields #[.ref l,.int 0 0] }
abbrev zH2 (k1 k2:Bool) (h:Heap) (l1 l2:Addr):Heap:=(h.push (zO k1 l1)).push (zO k2 l2)
abbrev zH3 (k1 k2:Bool) (h:Heap) (l1 l2:Addr):Heap:=(zH2 k1 k2 h l1 l2).push { cls:=.type "tuple", data:=.seq #[.ref h.objs.size,.ref (h.push (zO k1 l1)).objs.size] }
abbrev zH4 (k1 k2:Bool) (h:Heap) (l1 l2:Addr):Heap:=(zH3 k1 k2 h l1 l2).push { cls:=.type "tuple", data:=.seq #[.none,.none] }
abbrev zH5 (k1 k2:Bool) (h:Heap) (l1 l2:Addr):Heap:=(zH4 k1 k2 h l1 l2).push { cls:=.type "zip", data:=.fields #[.none,.bool false,.bool false,.ref (zH2 k1 k2 h l1 l2).objs.size,.ref (zH3 k1 k2 h l1 l2).objs.size] }
theorem zFB (k1 k2:Bool) (l1 l2:Addr) (xs ys:Array Value):Meets (Builtin.«zip.__new__» ⟨[.type "zip", .ref l1,.ref l2],[]⟩) (fun _ R s=>rZ k1 s.heap l1 xs/\rZ k2 s.heap l2 ys/\
  R (.ok (.ret (.ref (zH4 k1 k2 s.heap l1 l2).objs.size))) { s with heap:=zH5 k1 k2 s.heap l1 l2 }):=
 .of_wp fun prog w A R s h=>by
  obtain ⟨hp,g,d,tk,os⟩:=s
  obtain ⟨hl1,hl2,h⟩:=h
  have hsub:=sub_zip
  have d1:rZ k1 (Shared.heap ⟨hp,g,d,tk,os⟩) l1 xs:=hl1
  have d2:rZ k2 (Shared.heap ⟨hp.push { cls:=.type (itN k1),data:=.fields #[.ref l1,.int 0 0] },g,d,tk,os⟩) l2 ys:=hl2.go fun o e=>Heap.get?_push_of_some _ e
  wp_walk using zEI d1,zEI d2
  exact ⟨_,rfl,h⟩
section
variable {prog:Program} {w:World} {A:Around} {E:Value->Shared->Prop} {s:Shared}
theorem zGr {k1 k2:Bool} {l1 l2:Addr} {xs ys:Array Value} {Q:Value->Shared->Prop} (d1:rZ k1 s.heap l1 xs) (d2:rZ k2 s.heap l2 ys)
  (h:∀ h2,tW .none k1 k2 l1 l2 s.heap.objs.size 0 0 h2->(∀ c o,s.heap.get? c=some o->h2.get? c=some o)->Q (.ref (s.heap.objs.size+4)) { s with heap:=h2 }):wpAny (model prog w) A (call (.type "zip") [.ref l1,.ref l2]) Q E s:=by
 refine callType_new F.called_zip (by decide) (F.typeCall_zip_2 _ _) (F.newCall_zip_2 _ _) (fun obj=>F.args_object_init_3 obj _ _) F.entry_zip_new (zFB k1 k2 l1 l2 xs ys) ⟨d1,d2,?_⟩
 have up:∀ {h:Heap} {a:Addr} {o ob:Obj},h.get? a=some o->(h.push ob).get? a=some o:=fun e=>Heap.get?_push_of_some _ e
 have m1:(s.heap.push (zO k1 l1)).objs.size=s.heap.objs.size+1:=Heap.size_push ..
 have m2:(zH2 k1 k2 s.heap l1 l2).objs.size=s.heap.objs.size+2:=(Heap.size_push ..).trans (congrArg (·+1) m1)
 have m3:(zH3 k1 k2 s.heap l1 l2).objs.size=s.heap.objs.size+3:=(Heap.size_push ..).trans (congrArg (·+1) m2)
 have m4:(zH4 k1 k2 s.heap l1 l2).objs.size=s.heap.objs.size+4:=(Heap.size_push ..).trans (congrArg (·+1) m3)
 have r0:(zH5 k1 k2 s.heap l1 l2).get? s.heap.objs.size=some (zO k1 l1):=up (up (up (up (Heap.get?_push_size _ rfl))))
 have r1:(zH5 k1 k2 s.heap l1 l2).get? (s.heap.push (zO k1 l1)).objs.size=some (zO k2 l2):=up (up (up (Heap.get?_push_size _ rfl)))
 have r2:(zH5 k1 k2 s.heap l1 l2).get? (zH2 k1 k2 s.heap l1 l2).objs.size=some _:=up (up (Heap.get?_push_size _ rfl))
 have r3:(zH5 k1 k2 s.heap l1 l2).get? (zH3 k1 k2 s.heap l1 l2).objs.size=some _:=up (Heap.get?_push_size _ rfl)
 have r4:(zH5 k1 k2 s.heap l1 l2).get? (zH4 k1 k2 s.heap l1 l2).objs.size=some _:=Heap.get?_push_size _ rfl
 rw [m1] at r1
 rw [m1,m2] at r2
 rw [m3] at r3
 rw [m2,m3,m4] at r4
 show _/\_
 rw [m4]
 exact ⟨⟨_,r4,rfl⟩,h _ ⟨r4,r2,⟨_,_,r3⟩,.mk r0 rfl rfl,.mk r1 rfl rfl⟩ fun c o x=>up (up (up (up (up x))))⟩
end
end L3
namespace L3
open PySem PySem.Spec PyProof.Rows L2
section
variable {X:Cx} {pins:List (Addr×Obj)} {σ:St} {H:Hp} {s:Shared} {h':Heap} {fp:List Addr}
theorem zIh {t':Nat} {p:Addr} {xs:List V} {us:List Value} (I:Inv X pins σ H s) (hf:∀ b∈fp,pA X pins H b) (k:∀ b o,b∉fp->s.heap.get? b=some o->h'.get? b=some o)
  (hp:s.heap.objs.size<=p) (ht:IsTup h' p us.toArray) (hv:cM xs us) (hz:xs.length<=sizeLine):Inv X pins σ (upd H p (.tup xs)) { s with heap:=h',toks:=t' }:=by
 have hn:H p=none:=I.hok.fresh hp
 have nf:∀ b u,H b=some u->b∉fp:=fun b u e z=>by rw [(hf b z).1] at e;cases e
 have np:∀ b u,H b=some u->upd H p (.tup xs) b=some u:=fun b u e=>by rw [bA (aY e hn)];exact e
 refine I.step (g':=s.gens) (d':=s.drawn) (ch:=fp) (fun b hb=>⟨(hf b hb).2.2.2.1,(hf b hb).2.1,(hf b hb).2.2.2.2.1,(hf b hb).2.2.2.2.2⟩) (fun b o _ _ hc e _=>k b o hc e) (fun b o _ _ hc e _=>⟨o.slots,k b o hc e⟩) (fun b o _ e n=>?_)
  (fun b o hc e=>⟨o,k b o hc e⟩) (fun b xs e=>np _ _ e) (fun b o u e=>np _ _ e) (fun b ps e=>⟨#[],by rw [np _ _ e];simp⟩) (fun m hm=>?_) (fun b u e=>?_) I.bare
 ·rw [bA (Nat.ne_of_lt (Nat.lt_of_lt_of_le (Heap.lt_size e) hp))];exact n
 ·obtain ⟨o,es,ep,ho,r⟩:=hm
  exact ⟨o,es,ep,k _ o (fun z=>(hf _ z).2.1 rfl) ho,r⟩
 ·by_cases hb:b=p
  ·subst hb
   rw [aW] at e;cases e
   exact ⟨hz,us,hv,ht⟩
  ·rw [bA hb] at e
   refine (I.hok b u e).stay (fun c v hc q=>k c v ?_ q) (fun _ q=>np _ _ q) fun _ _ q=>np _ _ q
   rcases hc with z | z
   ·rw [z];exact nf b u e
   ·exact nf c _ z
theorem zJk {t':Nat} (I:Inv X pins σ H s) (hf:∀ b∈fp,pA X pins H b) (k:∀ b o,b∉fp->s.heap.get? b=some o->h'.get? b=some o):Inv X pins σ H { s with heap:=h',toks:=t' }:=by
 have nf:∀ b u,H b=some u->b∉fp:=fun b u e z=>by rw [(hf b z).1] at e;cases e
 refine I.step (g':=s.gens) (d':=s.drawn) (ch:=fp) (fun b hb=>⟨(hf b hb).2.2.2.1,(hf b hb).2.1,(hf b hb).2.2.2.2.1,(hf b hb).2.2.2.2.2⟩) (fun b o _ _ hc e _=>k b o hc e) (fun b o _ _ hc e _=>⟨o.slots,k b o hc e⟩) (fun b o _ e n=>n)
  (fun b o hc e=>⟨o,k b o hc e⟩) (fun b xs e=>e) (fun b o u e=>e) (fun b ps e=>⟨#[],by rw [e];simp⟩) (fun m hm=>?_) (fun b u e=>?_) I.bare
 ·obtain ⟨o,es,ep,ho,r⟩:=hm
  exact ⟨o,es,ep,k _ o (fun z=>(hf _ z).2.1 rfl) ho,r⟩
 ·refine (I.hok b u e).stay (fun c v hc q=>k c v ?_ q) (fun _ q=>q) fun _ _ q=>q
  rcases hc with z | z
  ·rw [z];exact nf b u e
  ·exact nf c _ z
end
def SqK (k:Bool) (K:PySem.W.Frag) (H:Hp) (a:Addr) (xs:List V):Prop:=if k then SqL K H a xs else SqT K H a xs
theorem pG {k:Bool} {K:PySem.W.Frag} {H H':Hp} (e:Same H H') {a:Addr} {xs:List V} (h:SqK k K H a xs):SqK k K H' a xs:=by
 cases k
 ·exact cD e h
 ·exact cK e h
section
variable {X:Cx} {pins:List (Addr×Obj)} {σ:St} {H:Hp} {s:Shared} {k:Bool} {a:Addr} {xs ys:List V}
theorem sqI (I:Inv X pins σ H s) (h:SqK k X.K H a xs):∃ its:List Value,cM xs its/\rZ k s.heap a its.toArray/\xs.length<=sizeLine:=by
 cases k
 ·obtain ⟨its,rv,p,hz⟩:=I.tuple h
  exact ⟨its,rv,p,hz⟩
 ·obtain ⟨its,rv,p,hz⟩:=I.list h
  exact ⟨its,rv,p.isList,hz⟩
theorem zDU (I:Inv X pins σ H s) (h:SqK k X.K H a xs) (h':SqK k X.K H a ys):xs=ys:=by
 cases k
 ·exact I.tuple_inj h h'
 ·exact I.list_inj h h'
theorem rZ.lt {h:Heap} {l:Addr} {xs:Array Value} (x:rZ k h l xs):l < h.objs.size:=by
 cases k<;>(obtain ⟨o,e,_⟩:=x;exact Heap.lt_size e)
end
def Itz (K:PySem.W.Frag) (k1 k2:Bool) (a1 a2:Addr):It:=
  ⟨fun i H=>∃ xs ys x y,SqK k1 K H a1 xs/\SqK k2 K H a2 ys/\xs[i]?=some x/\ys[i]?=some y,
   fun i H v H'=>∃ p x y,v=.ref p/\H p=none/\H'=upd H p (.tup [x,y])/\(∀ xs,SqK k1 K H a1 xs->xs[i]?=some x)/\∀ ys,SqK k2 K H a2 ys->ys[i]?=some y,
   fun i H=>∃ xs ys,SqK k1 K H a1 xs/\SqK k2 K H a2 ys/\(xs.length<=i∨ys.length<=i)⟩
def zNu (k1 k2:Bool) (a1 a2 n:Addr) (i:Nat) (h:Heap):Prop:=tW .none k1 k2 a1 a2 n i i h
theorem rC {h:Heap} {b:Addr} {o:Obj} {d:Data} (e:h.get? b=some o) (hd:o.data=d) (nd:∀ v,d≠.cell v):∃ o,h.get? b=some o/\∀ v,o.data≠.cell v:=⟨o,e,fun v z=>nd v (hd.symm.trans z)⟩
theorem zFI {P:Program} {w:World} {K:PySem.W.Frag} {elts:List Expr} {x1:Nat} {tp:Pos} (k1 k2:Bool) (a1 a2 n:Addr) (l1:a1 < n) (l2:a2 < n):
  Turn P w K (.Tuple elts x1 tp) (Itz K k1 k2 a1 a2) [n+4,n+2,n+3,n,n+1] (n+4) (zNu k1 k2 a1 a2 n) where
 mem:=by simp
 obj:=fun i h st b hb=>by
  obtain ⟨t1,t2,⟨a,b',t3⟩,t4,t5⟩:=st
  obtain ⟨o4,e4,_,d4⟩:=t4.get
  obtain ⟨o5,e5,_,d5⟩:=t5.get
  simp only [List.mem_cons,List.not_mem_nil,or_false] at hb
  rcases hb with rfl | rfl | rfl | rfl | rfl
  ·exact rC t1 rfl fun v z=>by cases z
  ·exact rC t2 rfl fun v z=>by cases z
  ·exact rC t3 rfl fun v z=>by cases z
  ·exact rC e4 d4 fun v z=>by cases z
  ·exact rC e5 d5 fun v z=>by cases z
 keep:=fun i h h' st k=>by
  obtain ⟨t1,t2,⟨a,b',t3⟩,t4,t5⟩:=st
  exact ⟨k _ (by simp) _ t1,k _ (by simp) _ t2,⟨a,b',k _ (by simp) _ t3⟩,t4.go fun o e=>k _ (by simp) o e,t5.go fun o e=>k _ (by simp) o e⟩
 item:=by
  intro X hP hw hK hc i pins s σ H E I hf st hg
  subst hP hw hK
  obtain ⟨xs,ys,x,y,q1,q2,hx,hy⟩:=hg
  obtain ⟨us,r1,s1,z1⟩:=sqI I q1
  obtain ⟨ws,r2,s2,z2⟩:=sqI I q2
  obtain ⟨u,hu,ru⟩:=r1.get hx
  obtain ⟨v,hv,rv⟩:=r2.get hy
  have hu':us.toArray[i]?=some u:=by simpa using hu
  have hv':ws.toArray[i]?=some v:=by simpa using hv
  have st':=st
  obtain ⟨t1,t2,⟨a,b,t3⟩,t4,t5⟩:=st
  refine zMG (I.ok.hd hc) l1 l2 st' s1 s2 (fun x' y' f1 f2 h' g' p' kz=>?_) (fun q=>?_)
  rotate_left
  ·rw [hu',hv'] at q;rcases q with q | q<;>cases q
  rw [hu'] at f1;cases f1
  rw [hv'] at f2;cases f2
  refine ⟨_,rfl,wpAny_letOwnedTupleGo_zip (s:={ s with heap:=h' }) g'.1 fun h'' c1 c2=>?_⟩
  have zl:s.heap.objs.size≠n+4:=Nat.ne_of_gt (Heap.lt_size t1)
  have np:H s.heap.objs.size=none:=I.hok.fresh (Nat.le_refl _)
  have I1:Inv X pins σ (upd H s.heap.objs.size (.tup [x,y])) { s with heap:=h'',toks:=s.toks }:=zIh (us:=[u,v]) I hf (fun b o hb e=>by
    simp only [List.mem_cons,List.not_mem_nil,or_false,not_or] at hb
    exact c2.extBut b o hb.1 (kz b o hb.1 hb.2.2.1 hb.2.2.2.1 hb.2.2.2.2 e)) (Nat.le_refl _) ⟨_,c2.extBut _ _ zl p',rfl,_,rfl⟩ (.cons ru (.cons rv .nil)) (show 2<=sizeLine by decide)
  refine ⟨.ref s.heap.objs.size,_,I1,rfl,⟨_,x,y,rfl,np,rfl,fun zs hz=>by rw [zDU I hz q1];exact hx,fun zs hz=>by rw [zDU I hz q2];exact hy⟩,g'.fld c1 c2.extBut,fun b hb=>?_⟩
  ·obtain ⟨o,e,_⟩:∃ o,s.heap.get? b=some o/\True:=by
    obtain ⟨o4,e4,_⟩:=t4.get
    obtain ⟨o5,e5,_⟩:=t5.get
    simp only [List.mem_cons,List.not_mem_nil,or_false] at hb
    rcases hb with rfl | rfl | rfl | rfl | rfl
    ·exact ⟨_,t1,trivial⟩
    ·exact ⟨_,t2,trivial⟩
    ·exact ⟨_,t3,trivial⟩
    ·exact ⟨_,e4,trivial⟩
    ·exact ⟨_,e5,trivial⟩
   rw [bA (Nat.ne_of_lt (Heap.lt_size e))]
   exact (hf b hb).1
 done:=by
  intro X hP hw hK hc i pins s σ H E I hf st hg
  subst hP hw hK
  obtain ⟨xs,ys,q1,q2,hl⟩:=hg
  obtain ⟨us,r1,s1,z1⟩:=sqI I q1
  obtain ⟨ws,r2,s2,z2⟩:=sqI I q2
  have st':=st
  obtain ⟨t1,t2,⟨a,b,t3⟩,t4,t5⟩:=st
  have e1:=r1.length
  have e2:=r2.length
  refine zMG (I.ok.hd hc) l1 l2 st' s1 s2 (fun x y f1 f2=>?_) fun _ h' b7=>⟨rfl,zJk (t':=s.toks) I hf fun b o hb e=>?_⟩
  ·have m1:=(Array.getElem?_eq_some_iff.mp f1).1
   have m2:=(Array.getElem?_eq_some_iff.mp f2).1
   rw [List.size_toArray] at m1 m2
   omega
  ·simp only [List.mem_cons,List.not_mem_nil,or_false,not_or] at hb
   exact b7 b o hb.1 hb.2.2.1 hb.2.2.2.1 hb.2.2.2.2 e
 self:=fun _ _ _ _ _ st h=>wpAny_pyIter_zip st.1 h
section
unseal PEd PEf PTd PWd PAd PSd eV POd PGd gW PId PSx kY PTs PCd PCf
variable {X:Cx} {G:Gx} {fs:Fv} {f:Ev}
def iZp (K:PySem.W.Frag) (ta:TA):TI:=fun σ H R=>ta σ H fun vs H1=>∃ k1 k2 a1 a2 xs ys,vs=[.ref a1,.ref a2]/\SqK k1 K H1 a1 xs/\SqK k2 K H1 a2 ys/\R (Itz K k1 k2 a1 a2) H1
theorem zJv {a b:Expr} {ta:TA} {p pos:Pos} {elts:List Expr} {x1:Nat} {tp:Pos} (hg:Gl X "zip") (hm:X.mg "zip" = none) (ha:PA X [a,b] ta)
  (hs:starEach [a,b] X.env=[(false,eval a X.env),(false,eval b X.env)]:=by rfl) (hs2:starEach [b] X.env=[(false,eval b X.env)]:=by rfl):PI X (.Tuple elts x1 tp) (.Call (.Name "zip" p) [a,b] [] pos) (iZp X.K ta):=by
 intro pins s σ H R I h
 refine Call_ (kF I hg hm boot_zip (PyProof.Rows.callWith_type1 (thn (ha pos pins s σ H _ I h) fun us s1 ⟨vs,H1,I1,r1,q1⟩=>?_) (by rw [hs,hs2]) (by rw [hs2];rfl)))
 obtain ⟨k1,k2,a1,a2,xs,ys,rfl,h1,h2,q⟩:=q1
 cases r1 with
 | cons r rr=>
  cases rr with
  | cons r' rr=>
   cases rr
   cases r
   cases r'
   obtain ⟨us,rv,p1,z1⟩:=sqI I1 h1
   obtain ⟨ws,rw_,p2,z2⟩:=sqI I1 h2
   refine zGr p1 p2 fun h' b1 b6=>wpAny_pyIter_zip (s:={ s1 with heap:=h' }) b1.1 ?_
   refine ⟨s1.heap.objs.size+4,_,_,_,H1,rfl,I1.kept (t':=s1.toks) b6,zFI k1 k2 a1 a2 s1.heap.objs.size p1.lt p2.lt,b1,fun b hb=>?_,q⟩
   have hb':s1.heap.objs.size<=b:=by
    simp only [List.mem_cons,List.not_mem_nil,or_false] at hb
    rcases hb with rfl | rfl | rfl | rfl | rfl<;>omega
   exact I1.fpOk hb' (I1.hok.fresh hb')
theorem xV:∀ (xs ys:List D) (i:Nat) (d:D),(iD xs ys)[i]?=some d->∃ a b,xs[i]?=some a/\ys[i]?=some b/\d=.tup [a,b]
 | a::r,b::q,0,d,h=>by cases h;exact ⟨a,b,rfl,rfl,rfl⟩
 | a::r,b::q,i+1,d,h=>xV r q i d h
 | [],_,i,d,h=>by cases i<;>cases h
 | a::r,[],i,d,h=>by cases i<;>cases h
theorem xC:∀ (xs ys:List D),(iD xs ys).length=min xs.length ys.length
 | a::r,b::q=>by
  have:=xC r q
  simp only [iD,List.length_cons,this]
  omega
 | [],_=>by simp [iD]
 | a::r,[]=>by simp [iD]
theorem zEn {K:PySem.W.Frag} {Hi:Hp} {k1 k2:Bool} {a1 a2:Addr} {xs ys:List V} {ds es:List D} (h1:SqK k1 K Hi a1 xs) (h2:IsDs K Hi xs ds) (h3:SqK k2 K Hi a2 ys) (h4:IsDs K Hi ys es):
  tU K Hi (Itz K k1 k2 a1 a2) (iD ds es):=fun Hi1 H1 s1 s2 i=>by
 have g1:=pG (s1.trans s2) h1
 have g3:=pG (s1.trans s2) h3
 refine ⟨fun hl=>⟨xs,ys,g1,g3,?_⟩,fun d hd=>?_⟩
 ·rw [xC] at hl
  have e1:=h2.length
  have e2:=h4.length
  omega
 ·obtain ⟨a,b,ha,hb,rfl⟩:=xV ds es i d hd
  obtain ⟨v,hv,rv⟩:=h2.at ha
  obtain ⟨w,hw,rw_⟩:=h4.at hb
  refine ⟨⟨xs,ys,v,w,g1,g3,hv,hw⟩,fun x H2 y=>?_⟩
  obtain ⟨p,x',y',rfl,hp,rfl,y1,y2⟩:=y
  have e1:=y1 xs g1
  have e2:=y2 ys g3
  rw [hv] at e1;cases e1
  rw [hw] at e2;cases e2
  have hi:=s2.none hp
  have sm:=cU hi (.tup [v,w])
  exact ⟨upd Hi1 p (.tup [v,w]),Ext.new s2 hp,.tup (.inl (.inl aW)) (.cons ((rv.mono s1).mono sm) (.cons ((rw_.mono s1).mono sm) .nil))⟩
theorem zNb {K:PySem.W.Frag} {H:Hp} {v:V} {d:D} {ds:List D} (h:IsD K H v d) (e:zFq d=some ds):∃ k a xs,v=.ref a/\SqK k K H a xs/\IsDs K H xs ds:=by
 cases d with
 | lst es=>cases e;obtain ⟨a,xs,rfl,h1,h2⟩:=h.lstI;exact ⟨true,a,xs,rfl,h1,h2⟩
 | tup es=>cases e;obtain ⟨a,xs,rfl,h1,h2⟩:=h.tupI;exact ⟨false,a,xs,rfl,h1,h2⟩
 | _=>cases e
theorem zFH {a b:Expr} {p pos:Pos} {elts:List Expr} {x1:Nat} {tp:Pos} (hg:Gl X "zip") (hm:X.mg "zip" = none) (ha:PAd X G [a,b] fs)
  (hs:starEach [a,b] X.env=[(false,eval a X.env),(false,eval b X.env)]:=by rfl) (hs2:starEach [b] X.env=[(false,eval b X.env)]:=by rfl):
  PId X G (.Tuple elts x1 tp) (.Call (.Name "zip" p) [a,b] [] pos) (zIC fs):=PI.wk (zJv hg hm ha hs hs2) fun σ H Q q=>by
 obtain ⟨ρ,Hi,R,ou⟩:=q
 refine zFo R ou fun vs ds Hi1 H1 e1 R1 r1 o1=>?_
 split at o1
 ·rename_i x y
  obtain ⟨v,w,rfl,h,h'⟩:=r1.two
  split at o1
  ·rename_i ds es q1 q2
   obtain ⟨k1,a1,xs,rfl,g1,g2⟩:=zNb h q1
   obtain ⟨k2,a2,ys,rfl,g3,g4⟩:=zNb h' q2
   exact ⟨k1,k2,a1,a2,xs,ys,rfl,pG R1.s g1,pG R1.s g3,o1.here R1.s _ (zEn g1 g2 g3 g4)⟩
  ·exact o1.elim
 ·exact o1.elim
end
end L3
namespace L3
open PySem PySem.Spec PyProof.Rows L2
unseal PEd PEf PTd PWd PAd PSd eV POd PGd gW PId PSx kY PTs PCd PCf
structure BlkOk2 (X:Cx) (xs:List Str) (scope:Scope):Prop where
 kind:scope.kind=.function
 cell:∀ y∈scope.names,y.2≠.cell
 loc:∀ x∈xs,scope.names.lookup x=some .local
 names:∀ y∈scope.names,y.2=.local->scope.names.lookup y.1=some .local
 fre:∀ p∈scope.names,p.2=.free->X.env.kindOf p.1=some .cell∨X.env.kindOf p.1=some .free
 oth:∀ y∈X.N,scope.names.lookup y≠some .local
def zAc (X:Cx) (xs:List Str) (scope:Scope) (C:Addr) (s₂:Shared) (H₂:Hp) (fp:List Addr):Cx:=
  { prog:=X.prog,w:=X.w,K:=X.K,mg:=X.mg,base:=X.base,A:=X.A,N:=X.N++xs,s₀:=s₂,H₀:=H₂,env:=compEnvC scope (zBe X.env scope.names []) C X.env,outer:=X.stack,stack:=X.stack,
    ex:=fp,fn:=fun _=>false,calm:=X.calm,pn:=X.pn,xe:=fun _ _=>False }
section
variable {X:Cx} {pins:List (Addr×Obj)} {σ:St} {H:Hp} {s₂:Shared} {xs:List Str} {scope:Scope} {fp:List Addr} {D C:Addr} {h₁:Heap}
theorem BlkOk2.cl (B:BlkOk2 X xs scope) (I:Inv X pins σ H s₂):∀ p∈scope.names,p.2=.free->∃ c,X.env.cells.lookup p.1=some c:=fun p hp e=>I.ok.has p.1 (B.fre p hp e)
theorem zKF (I:Inv X pins σ H s₂) (B:BlkOk2 X xs scope) (hfp:∀ b∈fp,pA X pins H b) (hfl:∀ b∈fp,b < s₂.heap.objs.size) (hD:s₂.heap.objs.size<=D) (hC:s₂.heap.objs.size<=C) (hDC:D≠C)
  (old:∀ b o,s₂.heap.get? b=some o->h₁.get? b=some o) {n:Nat} (hacc:h₁.get? D=some { cls:=.type "list", data:=.seq ([]:List Value).toArray n }) {m:Str->Option Value} (hns:h₁.Ns C m) (t:Nat):
  Inv (zAc X xs scope C s₂ H fp) pins (σ++xs.map fun _=>none) (upd H D (.lst [])) { s₂ with heap:=h₁,toks:=t }:=by
 have sub:=qF scope.names [] (B.cl I) (fun y c e=>nomatch e)
 have old_lt:∀ {b:Addr} {o:Obj},s₂.heap.get? b=some o->b≠D/\b≠C:=fun e=>⟨Nat.ne_of_lt (Nat.lt_of_lt_of_le (Heap.lt_size e) hD),Nat.ne_of_lt (Nat.lt_of_lt_of_le (Heap.lt_size e) hC)⟩
 have free:∀ {b:Addr},b≠D->H b=none->upd H D (.lst []) b=none:=fun n e=>by rw [bA n];exact e
 refine ⟨⟨I.ok.mod,B.kind,I.ok.glob,I.ok.blt,hC,fun y z c e1 e2=>I.ok.inj y z c (sub y c e1) (sub z c e2),fun y hy=>?_,fun y c e=>(nomatch e),I.ok.hd,I.ok.frames,.inl rfl,fun b hb=>⟨Nat.ne_of_lt (Nat.lt_of_lt_of_le (hfl b hb) hC),fun y c e=>(hfp b hb).2.2.2.2.1 y c (sub y c e)⟩,
  I.bs,Nat.le_trans I.ok.bsz I.sz,fun b o e hb=>?_,fun b hb z=>?_,I.stack,I.stkFree⟩,rfl,I.bare,Un.laid old hD (I.hok.fresh hD),⟨m,hns,fun i y v e1 e2 e3=>?_⟩,fun y c e=>?_,free (Ne.symm hDC) (I.hok.fresh hC),fun y c e=>?_,fun p hp=>?_,I.hok.laid old hD ⟨Nat.zero_le _,[],n,.nil,hacc⟩,?_⟩
 ·have:∃ k,(k=NameKind.cell∨k=NameKind.free)/\((relabel scope X.env).names).lookup y=some k:=hy.elim (fun h=>⟨_,.inl rfl,h⟩) fun h=>⟨_,.inr rfl,h⟩
  obtain ⟨k,hk,e⟩:=this
  have e':(y,NameKind.free)∈scope.names:=by
   rcases cC e with z | ⟨_,z⟩
   ·rcases hk with rfl | rfl
    ·exact absurd rfl (B.cell _ (bL z))
    ·exact bL z
   ·exact bL z
  exact pO scope.names [] y e'
 ·rcases (hfp b hb).2.2.2.1 with z | z
  ·exact I.ok.noex b o e z
  ·exact absurd (Nat.lt_of_lt_of_le (Heap.lt_size e) (Nat.le_trans I.ok.bsz z)) (Nat.lt_irrefl _)
 ·rcases List.mem_cons.mp (I.stkSub b z) with w | w
  ·exact (hfp b hb).2.1 w
  ·exact (hfp b hb).2.2.1 w
 ·
  have hi:i < σ.length:=by
   by_cases hi:i < σ.length
   ·exact hi
   ·exfalso
    rw [List.getElem?_append_right (by omega),List.getElem?_map] at e2
    cases q:xs[i - σ.length]? with
    | none=>rw [q] at e2;cases e2
    | some z=>rw [q] at e2;cases e2
  rw [List.getElem?_append_left hi] at e2
  have e1':(X.N++xs)[i]?=some y:=e1
  rw [List.getElem?_append_left (by rw [<-I.len];exact hi)] at e1'
  cases q:X.N[i]? with
  | none=>rw [q] at e1';cases e1'
  | some z=>
   rw [q] at e1'
   have hy:z=y:=Option.some.inj e1'
   have hz:z∈X.N:=List.mem_of_getElem? q
   subst hy
   have fr:(z,NameKind.free)∈scope.names:=by
    rcases e3 with h | h | h
    ·rcases cC h with h | ⟨h,_⟩
     ·exact absurd h (B.oth z hz)
     ·cases h
    ·rcases cC h with h | ⟨_,h⟩
     ·exact absurd rfl (B.cell _ (bL h))
     ·exact bL h
    ·rcases cC h with h | ⟨h,_⟩
     ·exact bL h
     ·cases h
   have kd:=B.fre _ fr rfl
   obtain ⟨m0,hn0,hl⟩:=I.loc
   obtain ⟨u,ru,lk⟩:=hl i z v q e2 (kd.elim (fun h=>.inr (.inl h)) fun h=>.inr (.inr h))
   refine ⟨u,ru,.inr ⟨?_,?_⟩⟩
   ·rcases e3 with h | h | h
    ·rcases cC h with h | ⟨h,_⟩
     ·exact absurd h (B.oth z hz)
     ·cases h
    ·exact .inl h
    ·exact .inr h
   ·rcases lk with ⟨k1,_⟩ | ⟨_,c,hc,hcell⟩
    ·rcases kd with kd | kd<;>(rw [kd] at k1;cases k1)
    ·obtain ⟨c',hc'⟩:=pO (env:=X.env) scope.names [] z fr
     have:=sub z c' hc'
     rw [hc] at this
     cases this
     obtain ⟨o,ho,hd⟩:=hcell
     exact ⟨c,hc',o,old _ _ ho,hd⟩
 ·obtain ⟨v,o,ho,hd⟩:=I.cell y c (sub y c e)
  exact ⟨v,o,old _ _ ho,hd⟩
 ·obtain ⟨v,o,ho,hd⟩:=I.cell y c (sub y c e)
  exact free (old_lt ho).1 (I.freeC y c (sub y c e))
 ·obtain ⟨e,n,ne,nf,d⟩:=I.pin p hp
  refine ⟨old _ _ e,free (old_lt e).1 n,(old_lt e).2,fun z=>?_,d⟩
  rcases List.mem_cons.mp (I.stkSub _ z) with w | w
  ·exact ne w
  ·exact nf w
 ·show (σ++xs.map fun _=>none).length=(X.N++xs).length
  rw [List.length_append,List.length_append,List.length_map,I.len]
end
theorem zBg {f:Ev} {ρ:Rho} {d:D} {ds es:List D} (h:eX f ρ (d::ds)=.ok es):
  ∃ a b e es',d=.tup [a,b]/\f (ρ++[.val a,.val b])=.ok e/\eX f ρ ds=.ok es'/\es=e::es':=by
 unfold eX at h
 split at h
 ·cases ‹_=[]›
 ·rename_i a b ds' q
  cases q
  cases hf:noErr (f (ρ++[.val a,.val b])) with
  | no=>rw [hf] at h;cases h
  | err c=>rw [hf] at h;cases h
  | ok e=>
   rw [hf] at h
   cases hr:eX f ρ ds with
   | no=>simp only [Res.bind,hr] at h;cases h
   | err c=>simp only [Res.bind,hr] at h;cases h
   | ok es'=>
    simp only [Res.bind,hr] at h
    cases h
    exact ⟨a,b,e,es',rfl,wN hf,rfl,rfl⟩
 ·cases h
theorem zE {f:Ev} {ρ:Rho} {c:Str}:∀ {ds:List D},eX f ρ ds≠.err c
 | []=>fun h=>by cases h
 | d::ds=>fun h=>by
  unfold eX at h
  split at h
  ·cases ‹_=[]›
  ·rename_i a b ds' q
   cases q
   cases hf:noErr (f (ρ++[.val a,.val b])) with
   | no=>rw [hf] at h;cases h
   | err c=>cases q:f (ρ++[.val a,.val b])<;>(rw [q] at hf;cases hf)
   | ok e=>
    rw [hf] at h
    cases hr:eX f ρ ds with
    | no=>simp only [Res.bind,hr] at h;cases h
    | err c'=>exact zE hr
    | ok es'=>simp only [Res.bind,hr] at h;cases h
  ·cases h
section
variable {X:Cx} {G:Gx} {elt iter:Expr} {xa xb:Str} {pa pb tp pos:Pos} {x1:Nat} {scope:Scope} {it:Fv} {f:Ev} {k:Nat}
theorem zCq (hc:X.calm=true/\TB X.K X.mg G.Bi G.B) (hr:Room k X.A) (Bk:BlkOk2 X [xa,xb] scope) (hN:(X.N++[xa,xb]).Nodup) (hi:PId X G (.Tuple [.Name xa pa,.Name xb pb] x1 tp) iter it)
  (hb:∀ (C:Addr) (s₂:Shared) (H₂:Hp) (fp:List Addr) (G':Gx),Good (zAc X [xa,xb] scope C s₂ H₂ fp) G' k->PEd (zAc X [xa,xb] scope C s₂ H₂ fp) G' elt f)
  (hs:∀ x,foldedSetIterable iter X.env x=pure x:=by intro _;rfl)
  {pins:List (Addr×Obj)} {s:Shared} {σ:St} {H Hi:Hp} {ρ:Rho} {use:Option (Value->Sem Unit)} {Q':Value->Shared->Prop} {Qa:Addr->Hp->Prop} {cpos:Pos} (I:Inv X pins σ H s) (R:jF X G Hi H σ ρ)
  (ou:Out G Hi H ((oH it f) ρ) fun ds Hi' H'=>∀ a,zFA X.K H Hi' H' a ds->Qa a H') (hend:zMX X pins σ use Q' Qa):
  wpAny (model X.prog X.w) X.A (comprehension (.ListComp elt [⟨.Tuple [.Name xa pa,.Name xb pb] x1 tp,iter,[],0⟩] scope pos) scope X.env cpos (newList []) false (eval iter X.env) use) Q' X.xe s:=by
 refine wpAny_comprehension_free (use:=use) rfl hs (zGI (Bk.cl I)) Bk.kind Bk.names ?_
 refine thn (hi pins s σ H (fun J H2=>∃ ds Hi2,Ext Hi H Hi2 H2/\tU X.K Hi2 J ds/\Out G Hi2 H2 (if ds.length<=16777215 then eX f ρ ds else .no) fun ds Hi' H'=>∀ a,zFA X.K H Hi' H' a ds->Qa a H') I
  ⟨ρ,Hi,R,(Out.bind ou).imp fun ds Hi2 H2 e2 o2 J gv=>⟨ds,Hi2,e2,gv,o2⟩⟩) fun v s1 h1=>thn h1 fun itv s2 h2=>?_
 obtain ⟨itA,fp,tn,J,H2,rfl,I2,T,st2,f2,ds,Hi2,e2,gv,ou2⟩:=h2
 have hlen:ds.length<=16777215:=by
  by_cases hlen:ds.length<=16777215
  ·exact hlen
  ·rw [if_neg hlen] at ou2;exact ou2.elim
 rw [if_pos hlen] at ou2
 cases hes:eX f ρ ds with
 | no=>rw [hes] at ou2;exact ou2.elim
 | err c=>exact absurd hes zE
 | ok es=>
  rw [hes] at ou2
  have R2:jF X G Hi2 H2 σ ρ:=R.grow e2
  refine wpAny_newObj_type (wpAny_newFunctionEnv Bk.cell (by intro y hy;simp at hy) (fun h₁ hns₁ hsb₁=>?_) Bk.kind)
  dsimp only at hns₁ hsb₁ ⊢
  generalize hH2:s2.heap.push { cls:=.type "list", dict:=none,data:=.seq ([]:List Value).toArray }=HP at hns₁ hsb₁ ⊢
  have hC:HP.objs.size=s2.heap.objs.size+1:=by rw [<-hH2,Heap.size_push]
  have hDC:s2.heap.objs.size≠HP.objs.size:=by rw [hC];omega
  have ltC:∀ {b:Addr} {o:Obj},s2.heap.get? b=some o->b≠HP.objs.size:=fun e=>by rw [hC];exact Nat.ne_of_lt (Nat.lt_succ_of_lt (Heap.lt_size e))
  have old:∀ b o,s2.heap.get? b=some o->h₁.get? b=some o:=fun b o e=>hsb₁.extBut b o (ltC e) (Heap.get?_push_of_some _ (hH2 ▸ Heap.get?_push_of_some _ e))
  have hacc:h₁.get? s2.heap.objs.size=some { cls:=.type "list", data:=.seq ([]:List Value).toArray 0 }:=hsb₁.extBut _ _ hDC (Heap.get?_push_of_some _ (hH2 ▸ Heap.get?_push_size _ rfl))
  have hfl:∀ b∈fp,b < s2.heap.objs.size:=fun b hb=>by obtain ⟨o,e,_⟩:=T.obj _ _ st2 b hb;exact Heap.lt_size e
  have IE:=zKF (t:=s2.toks+([]:List (Str×Value)).length) I2 Bk f2 hfl (Nat.le_refl _) (by rw [hC];omega) hDC old hacc hns₁
  have sub:=qF scope.names [] (Bk.cl I2) (fun y c e=>nomatch e)
  have H2D:H2 s2.heap.objs.size=none:=I2.hok.fresh (Nat.le_refl _)
  have HD:H s2.heap.objs.size=none:=e2.h.none H2D
  have Hi2D:Hi2 s2.heap.objs.size=none:=e2.s.none H2D
  generalize hX:zAc X [xa,xb] scope HP.objs.size s2 H2 fp=Y at IE
  have GY:Good Y ⟨G.B,G.Bi,fun _ _=>False⟩ k:=by
   subst hX
   exact ⟨hc.1,hr,fun pins σ H s e s' _ h=>by obtain ⟨_,_,_,_,_,c,_,z⟩:=h;exact z.elim,PassesOwn.never,hc.2⟩
  have hel:=(hX ▸ hb HP.objs.size s2 H2 fp ⟨G.B,G.Bi,fun _ _=>False⟩ (hX.symm ▸ GY):PEd Y ⟨G.B,G.Bi,fun _ _=>False⟩ elt f)
  have stat:∀ {H':Hp},(∀ b∈fp,H' b=none)->∀ b∈fp,pA Y pins H' b:=fun hn b hb=>by
   subst hX
   refine ⟨hn b hb,?_,fun z=>?_,.inl hb,fun y c e=>(f2 b hb).2.2.2.2.1 y c (sub y c e),(f2 b hb).2.2.2.2.2⟩
   ·show b≠HP.objs.size
    rw [hC];exact Nat.ne_of_lt (Nat.lt_succ_of_lt (hfl b hb))
   ·rcases List.mem_cons.mp (I2.stkSub b z) with w | w
    ·exact (f2 b hb).2.1 w
    ·exact (f2 b hb).2.2.1 w
  have YN:Y.N.Nodup:=by subst hX;exact hN
  have Ya:Y.N[σ.length]?=some xa:=by
   subst hX
   show (X.N++[xa,xb])[σ.length]?=some xa
   rw [List.getElem?_append_right (by rw [I2.len];omega),I2.len,Nat.sub_self]
   rfl
  have Yb:Y.N[σ.length+1]?=some xb:=by
   subst hX
   show (X.N++[xa,xb])[σ.length+1]?=some xb
   rw [List.getElem?_append_right (by rw [I2.len];omega),I2.len,Nat.add_sub_cancel_left]
   rfl
  have Yla:Y.env.scope.names.lookup xa=some .local:=by subst hX;exact lookup_relabel_local (Bk.loc xa (by simp))
  have Ylb:Y.env.scope.names.lookup xb=some .local:=by subst hX;exact lookup_relabel_local (Bk.loc xb (by simp))
  have asg:PG Y (.Tuple [.Name xa pa,.Name xb pb] x1 tp) (L2.zGW Y.K 2 (L2.sT (L2.gName σ.length) (L2.sT (L2.gName (σ.length+1)) L2.zGA))):=
   zGU (by subst hX;exact hc.1) (wV (wW YN Ya (.inl Yla) (.inr Yla)) (wV (wW YN Yb (.inl Ylb) (.inr Ylb)) zEs))
  have Ye:Y.env=compEnvC scope (zBe X.env scope.names []) HP.objs.size X.env:=by subst hX;rfl
  have Yxe:∀ e s,¬ Y.xe e s:=by subst hX;exact fun _ _ h=>h
  have tn1:tn 0 h₁:=T.keep _ _ _ st2 fun b _ o e=>old b o e
  have fP:∀ s3:Shared,s3={ s2 with heap:=h₁,toks:=s2.toks+([]:List (Str×Value)).length }->
    codeAny (model X.prog X.w) X.A (.compLoop (.ListComp elt [⟨.Tuple [.Name xa pa,.Name xb pb] x1 tp,iter,[],0⟩] scope pos) 0 (.ref itA) (.ref s2.heap.objs.size) Y.env) (compPost (model X.prog X.w) X.A X.xe use Q' (.ref s2.heap.objs.size) HP.objs.size) s3:=by
   rintro s3 rfl
   subst hX
   have fr0:∀ b∈fp,upd H2 s2.heap.objs.size (.lst []) b=none:=fun b hb=>by
    rw [bA (Nat.ne_of_lt (hfl b hb))]
    exact (f2 b hb).1
   refine PyProof.Rows.LCp.codeAny_compLoop_pair (fun n s'=>∃ c:CW,n=ds.length - c.i/\CS (zAc X [xa,xb] scope HP.objs.size s2 H2 fp) pins σ tn fp Hi2 H2 s2.heap.objs.size 2 (fun i=>eX f ρ (ds.drop i)) es c s') ?_ ds.length
    ⟨⟨0,[none,none],_,Hi2,[],[],es⟩,rfl,⟨IE,rfl,tn1,fr0,(Ext.refl e2.s).trans (Ext.newF e2.s H2D),aW,Hi2D,.nil,Nat.le_refl _,hes,rfl⟩⟩
   ·rintro n s3 ⟨⟨i,vv,H3,Hi3,ys,done,rest⟩,rfl,I3,wd3,st3,fr3,e3,hD3,hiD3,rd3,hl3,hr3,hes3⟩
    dsimp only at I3 wd3 st3 fr3 e3 hD3 hiD3 rd3 hl3 hr3 hes3 ⊢
    obtain ⟨v,v',rfl⟩:∃ v v',vv=[v,v']:=by
     match vv,wd3 with
     | [v,v'],_=>exact ⟨v,v',rfl⟩
    obtain ⟨w1,w2⟩:=gv Hi3 H3 e3.i e3.s i
    have lift:∀ {α:Type} {m:Sem α} {Q':α->Shared->Prop} {E:Value->Shared->Prop} {s':Shared},wpAny (model X.prog X.w) X.A m Q' (zAc X [xa,xb] scope HP.objs.size s2 H2 fp).xe s'->wpAny (model X.prog X.w) X.A m Q' E s':=fun h=>wpAny_mono h (fun _ _ z=>z) fun e s z=>(Yxe e s z).elim
    by_cases hlt:i < ds.length
    ·obtain ⟨d,hd⟩:∃ d,ds[i]?=some d:=⟨_,List.getElem?_eq_getElem hlt⟩
     obtain ⟨go,yl⟩:=w2 d hd
     have e4:ds.drop i=d::ds.drop (i+1):=by
      rw [List.getElem?_eq_getElem hlt] at hd
      cases hd
      exact List.drop_eq_getElem_cons hlt
     rw [e4] at hr3
     refine thn (T.item (zAc X [xa,xb] scope HP.objs.size s2 H2 fp) rfl rfl rfl hc.1 i pins s3 _ H3 _ I3 (stat fr3) st3 go) fun r s4 ⟨u,hru,h4⟩=>?_
     subst hru
     refine thn h4 fun _ s5 h5=>?_
     obtain ⟨xv,H5,I5,r5,y5,st5,fr5⟩:=h5
     obtain ⟨Hi5,e5,rd5⟩:=yl xv H5 y5
     have I5':=I5.pinned (stat fr5) (T.obj _ _ st5)
     obtain ⟨a,b,e,es',rfl,hf,hr4,hee⟩:=zBg hr3
     obtain ⟨pa',ps,rfl,hq,hps⟩:=rd5.tupI
     obtain ⟨va,vb,rfl,ra,rb⟩:=hps.two
     refine lift (thn (asg _ s5 _ H5 _ u (fun σ' H'=>σ'=σ++[some va,some vb]/\H'=H5) I5' r5 ⟨pa',_,rfl,cD (e3.trans e5).s hq,rfl,va,_,rfl,vb,_,rfl,rfl,?_,rfl⟩) fun _ s6 h6=>?_)
     ·rw [List.set_append_right _ _ (Nat.le_refl _),Nat.sub_self,List.set_append_right _ _ (Nat.le_succ _),Nat.succ_sub (Nat.le_refl _),Nat.sub_self];rfl
     obtain ⟨σ6,H6,I6,rfl,rfl⟩:=h6
     have E5:Ext Hi2 H2 Hi5 H6:=e3.trans e5
     have R5:jF (zAc X [xa,xb] scope HP.objs.size s2 H2 fp) ⟨G.B,G.Bi,fun _ _=>False⟩ Hi5 H6 (σ++[some va,some vb]) (ρ++[.val a,.val b]):=by
      have:=Rel.snoc (Rel.snoc (R2.grow E5) ra) rb
      rw [List.append_assoc,List.append_assoc] at this
      exact this
     obtain ⟨hD5,hiD5⟩:=e5.out hD3 hiD3
     have rd5':=rd3.mono e5.i
     have again:∀ {H8 Hi8:Hp} {ys':List V} {done' rest':List D} {s8:Shared},Inv (zAc X [xa,xb] scope HP.objs.size s2 H2 fp) (pins++rK fp s5.heap) (σ++[some va,some vb]) H8 s8->Ext Hi2 H2 Hi8 H8->H8 s2.heap.objs.size=some (.lst ys')->Hi8 s2.heap.objs.size=none->IsDs X.K Hi8 ys' done'->done'.length<=i+1->
       eX f ρ (ds.drop (i+1))=.ok rest'->es=done'++rest'->∃ m,m < ds.length - i/\∃ c:CW,m=ds.length - c.i/\CS (zAc X [xa,xb] scope HP.objs.size s2 H2 fp) pins σ tn fp Hi2 H2 s2.heap.objs.size 2 (fun i=>eX f ρ (ds.drop i)) es c s8:=fun {H8 Hi8 ys' done' rest' s8} I8 E8 a1 a2 a3 a4 a5 a6=>by
      refine ⟨ds.length - (i+1),by omega,⟨i+1,[some va,some vb],H8,Hi8,ys',done',rest'⟩,rfl,⟨I8.unpinned,rfl,T.keep _ _ _ st5 fun b hb o e=>(I8.pin (b,o) (List.mem_append_right _ (List.mem_append_right _ (eD hb e)))).1,fun b hb=>?_,E8,a1,a2,a3,a4,a5,a6⟩⟩
      obtain ⟨o,e,_⟩:=T.obj _ _ st5 b hb
      exact (I8.pin (b,o) (List.mem_append_right _ (List.mem_append_right _ (eD hb e)))).2.1
     refine lift (thn (hel _ s6 _ H6 (fun w H'=>∃ Hi',Ext Hi5 H6 Hi' H'/\IsD X.K Hi' w e) I6 ⟨_,Hi5,R5,by rw [hf];exact fun Hi' H' ee w hw=>⟨Hi',ee,hw⟩⟩) fun u8 s8 h8=>?_)
     obtain ⟨w8,H8,I8,r8,Hi8,e8,rw8⟩:=h8
     obtain ⟨hD8,hiD8⟩:=e8.out hD5 hiD5
     have rdy:IsDs X.K Hi8 ys done:=rd5'.mono e8.i
     refine lift (thn (qQ (X:=(zAc X [xa,xb] scope HP.objs.size s2 H2 fp)) _ s8 _ H8 (.ref s2.heap.objs.size) [w8] (.ref s2.heap.objs.size) [u8] (fun _ H'=>H'=upd H8 s2.heap.objs.size (.lst (ys++[w8]))) I8 rfl (.cons r8 .nil) ⟨_,ys,w8,rfl,rfl,hD8,?_,rfl⟩) fun _ s9 h9=>?_)
     ·rw [rdy.length]
      exact Nat.lt_of_le_of_lt hl3 (Nat.lt_of_lt_of_le hlt (Nat.le_trans hlen (by decide)))
     ·obtain ⟨_,H9,I9,_,rfl⟩:=h9
      refine again I9 (Ext.rewrite (E5.trans e8) H2D hiD8 ⟨_,hD8⟩) aW hiD8 (rdy.snoc rw8) (by rw [List.length_append];exact Nat.succ_le_succ hl3) hr4 ?_
      rw [hes3,hee,List.append_assoc];rfl
    ·rw [List.drop_eq_nil_of_le (by omega),eX] at hr3
     cases hr3
     refine thn (T.done (zAc X [xa,xb] scope HP.objs.size s2 H2 fp) rfl rfl rfl hc.1 i pins s3 _ H3 _ I3 (stat fr3) st3 (w1 (by omega))) fun r s4 ⟨hrn,I4⟩=>?_
     subst hrn
     obtain ⟨m4,hn4,_⟩:=I4.loc
     have fC:H3 HP.objs.size=none:=I4.free
     have nC:∀ b u,H3 b=some u->b≠HP.objs.size:=fun b u e z=>by rw [z,fC] at e;cases e
     have U4:=I4.base
     refine hend HP.objs.size s2.heap.objs.size m4 s4 H3 hn4 (fun h' hs'=>?_) (I2.fpOk (by rw [hC];omega) fC) ?_
     ·have kp:∀ b o,b≠HP.objs.size->s4.heap.get? b=some o->h'.get? b=some o:=fun b o hb e=>hs'.extBut b o hb e
      refine Inv.call' I2 (ch:=fp) I4.os ⟨fun b o e n hb hx=>kp b o (ltC e) (U4.keep b o e n hb hx),fun b o e n hb hx=>?_,U4.free,fun b o e hx=>?_,U4.tups,U4.frzs,U4.tbls⟩ (fun b u e=>?_) I4.bare (fun b hb=>⟨(f2 b hb).2.2.2.1,(f2 b hb).2.1,(f2 b hb).2.2.2.2.1,(f2 b hb).2.2.2.2.2⟩)
      ·obtain ⟨sl,q⟩:=U4.slot b o e n hb hx
       exact ⟨sl,kp b _ (ltC e) q⟩
      ·obtain ⟨o',q⟩:=U4.there b o e hx
       exact ⟨o',kp b _ (ltC e) q⟩
      ·refine (I4.hok b u e).stay (fun c v hc q=>kp c v ?_ q) (fun _ q=>q) fun _ _ q=>q
       rcases hc with z | z
       ·rw [z];exact nC b u e
       ·exact nC c _ z
     ·refine ou2 Hi3 H3 e3 _ ⟨HD,hiD3,ys,hD3,?_⟩
      rw [hes3,List.append_nil]
      exact rd3
  rw [Ye] at fP
  exact codeAny_compStart_list (fP _ rfl) (T.self _ 0 _ _ _ tn1 (fP _ rfl))
theorem zFV (hc:X.calm=true/\TB X.K X.mg G.Bi G.B) (hr:Room k X.A) (Bk:BlkOk2 X [xa,xb] scope) (hN:(X.N++[xa,xb]).Nodup) (hi:PId X G (.Tuple [.Name xa pa,.Name xb pb] x1 tp) iter it)
  (hb:∀ (C:Addr) (s₂:Shared) (H₂:Hp) (fp:List Addr) (G':Gx),Good (zAc X [xa,xb] scope C s₂ H₂ fp) G' k->PEd (zAc X [xa,xb] scope C s₂ H₂ fp) G' elt f)
  (hs:∀ x,foldedSetIterable iter X.env x=pure x:=by intro _;rfl):PEf X G (.ListComp elt [⟨.Tuple [.Name xa pa,.Name xb pb] x1 tp,iter,[],0⟩] scope pos) (oH it f):=by
 intro pins s σ H Q I w
 obtain ⟨ρ,Hi,R,ou⟩:=w
 rw [eval_ListComp]
 refine zCq hc hr Bk hN hi hb hs (use:=none) (Qa:=fun a H'=>Q (.ref a) H') I R ou fun C A m s4 H3 hn hI _ q=>?_
 exact ⟨m,hn,fun h' hs'=>⟨.ref A,H3,hI h' hs',rfl,q⟩⟩
def zJa (sc:Scope) (N:List Str) (xs:List Str) (scope:Scope):Bool:=
 scope.names.all (fun y=>y.2 != .cell) && xs.all (fun x=>scope.names.lookup x==some .local) && scope.names.all (fun y=>y.2 != .local || scope.names.lookup y.1==some .local)
  && scope.names.all (fun p=>p.2 != .free || (sc.names.lookup p.1==some .cell || sc.names.lookup p.1==some .free)) && N.all (fun y=>scope.names.lookup y != some .local)
theorem zIZ {sc:Scope} {N xs:List Str} (hk:scope.kind=.function) (hsc:X.env.scope=sc) (hN:X.N=N) (h:zJa sc N xs scope=true):BlkOk2 X xs scope:=by
 unfold zJa at h
 simp only [Bool.and_eq_true] at h
 obtain ⟨⟨⟨⟨h1,h2⟩,h3⟩,h4⟩,h5⟩:=h
 subst hN hsc
 refine ⟨hk,fun y hy e=>?_,fun x hx=>?_,fun y hy e=>?_,fun p hp e=>?_,fun y hy e=>?_⟩
 ·have:=List.all_eq_true.mp h1 y hy
  rw [e] at this;cases this
 ·exact beq_iff_eq.mp (List.all_eq_true.mp h2 x hx)
 ·have:=List.all_eq_true.mp h3 y hy
  rw [e] at this
  simpa using this
 ·have:=List.all_eq_true.mp h4 p hp
  rw [e] at this
  have q:X.env.scope.names.lookup p.1=some .cell∨X.env.scope.names.lookup p.1=some .free:=by simpa using this
  exact q
 ·have:=List.all_eq_true.mp h5 y hy
  rw [e] at this
  cases this
theorem mQ {sc:Scope} {N:List Str} (W:Good X G k) (hnd:(N++[xa,xb]).Nodup) (hk:scope.kind=.function) (hsc:X.env.scope=sc) (hN:X.N=N) (h:zJa sc N [xa,xb] scope=true) (hi:PId X G (.Tuple [.Name xa pa,.Name xb pb] x1 tp) iter it)
  (hb:∀ (C:Addr) (s₂:Shared) (H₂:Hp) (fp:List Addr) (G':Gx),Good (zAc X [xa,xb] scope C s₂ H₂ fp) G' k->PEd (zAc X [xa,xb] scope C s₂ H₂ fp) G' elt f)
  (hs:∀ x,foldedSetIterable iter X.env x=pure x:=by intro _;rfl):PEf X G (.ListComp elt [⟨.Tuple [.Name xa pa,.Name xb pb] x1 tp,iter,[],0⟩] scope pos) (oH it f):=
 zFV ⟨W.calm,W.tb⟩ W.room (zIZ hk hsc hN h) (hN ▸ hnd) hi hb hs
end
end L3
namespace L3
open PySem PySem.Spec PyProof.Rows L2
section
variable {prog:Program} {w:World} {A:Around} {E:Value->Shared->Prop} {s:Shared}
end
section
variable {X:Cx} {G:Gx} {fs:Fv} {f:Ev}
unseal PEd PEf PTd PWd PAd PSd eV POd PGd gW PId PSx kY PTs PCd PCf
end
end L3
namespace L3
open PySem PySem.Spec PyProof.Rows L2
unseal PEd PEf PTd PWd PAd PSd eV POd PGd gW PId PSx kY PTs PCd PCf
section
variable {X:Cx} {G:Gx} {f:Ev} {pos:Pos}
section
variable {o:Expr} {k:Nat} {b:Bool} {p1 p2 p3:Pos}
end
section
variable {i fo:Nat} {x y:Str} {ea eb ec ct o0 o1:Expr} {body rest:List Stmt} {a b:Fv} {cmp:Tv} {sr:Sv} {p1 p2 p3 p4 p5 p6 p7 p8 p9 p10 p11 p12 p13 p14 p15 p16:Pos} {k5 k0 k1:Nat}
end
section
variable {i j1 j2 j3:Nat} {x:Str} {tg ec c1 c2 c3 esl ev o:Expr} {b2 b3:List Stmt} {t1 t2 t3:Tv} {sl:Fv} {g:Ev} {p1 p2 p3 p4 p5 p6 p7 p8 p9:Pos}
end
end
end L3
namespace L3
open PySem PySem.Spec PyProof.Rows L2
unseal PEd PEf PTd PWd PAd PSd eV POd PGd gW PId PSx kY PTs PCd PCf
section
variable {prog:Program} {w:World} {A:Around} {E:Value->Shared->Prop} {s:Shared}
theorem vV {r:Addr} {a b c:Int} {t u v:Tok} {n:Nat} {R:List Value->Shared->Prop} (hh:A.handled=none) (hr:IsRange s.heap r a b c t u v) (hsmall:Builtin.Range.small a b c=true) (hn:Builtin.Range.rangeSize a b c=n) (hlen:n<=2^24)
  (h:∀ h' tk acc,(∀ b o,s.heap.get? b=some o->h'.get? b=some o)->s.heap.objs.size<=h'.objs.size->ItemsOf (fun i v=>∃ t,v=.int (a+i * c) t) acc n->R acc.toList { s with heap:=h',toks:=tk }):
  wpAny (model prog w) A (collect (.ref r)) R E s:=by
 unfold collect
 refine wpAny_bind (wpAny_runValue (codeAny_builtin entry_proto_collect' ?_))
 rw [Around.under_plainId PySem.F.plain_proto_collect _]
 show wpAny _ A.in1 (newList [] >>= fun l=>again (.builtin "list.__iadd__" ⟨[l,.ref r],[]⟩)) _ _ s
 refine wpAny_bind (wpAny_newObj_type ?_)
 refine wpAny_pure ⟨plainId_quiet PySem.F.plain_list_iadd _,codeAny_builtin entry_list_iadd' ?_⟩
 rw [Around.under_plainId PySem.F.plain_list_iadd _]
 have hS₁:(s.heap.push { cls:=.type "list", data:=.seq ([]:List Value).toArray }).get? s.heap.objs.size=some { cls:=.type "list", data:=.seq #[] }:=Heap.get?_push_size _ rfl
 show wpAny _ A.in1 (Builtin.List.listExtendWith (.ref s.heap.objs.size) (.ref r) (.ref s.heap.objs.size)) _ _ _
 have key:=wpAny_extend_range (prog:=prog) (w:=w) (A:=A) (s:={ s with heap:=s.heap.push { cls:=.type "list", data:=.seq ([]:List Value).toArray } })
  (R:=fun (q:Result) (s':Shared)=>∃ (h':Heap) (tk:Nat) (acc':Array Value) (c':Nat),q=.ok (.ret (.ref s.heap.objs.size))/\s'={ s with heap:=h',toks:=tk }/\
   (∀ b o,s.heap.get? b=some o->h'.get? b=some o)/\h'.get? s.heap.objs.size=some { cls:=.type "list", dict:=none,data:=.seq acc' c',slots:=#[] }/\ItemsOf (fun i v=>∃ t,v=.int (a+i * c) t) acc' n)
  hh (Heap.get?_push_of_some _ hr) hsmall hn hlen s.heap.objs.size (.ref s.heap.objs.size) 0 hS₁
  (fun h' tk acc' c' hk hS' hacc=>⟨h',tk,acc',c',rfl,rfl,fun b o e=>hk b o (Nat.ne_of_lt (Heap.lt_size e)) (Heap.get?_push_of_some _ e),hS',hacc⟩)
 refine wpAny_mono key (fun fin s' x=>?_) fun e s' x=>?_
 ·cases fin with
  | done f=>
   obtain ⟨h',tk,acc',c',e,rfl,hk,hS',hacc⟩:=x
   cases e
   show wpAny _ A (load s.heap.objs.size >>= _) _ _ _
   refine wpAny_bind (wpAny_load hS' ?_)
   exact wpAny_pure (h h' tk acc' hk (Nat.le_of_lt (Heap.lt_size hS')) hacc)
  | again c₁=>
   refine ⟨x.1,codeAny_mono x.2 fun q s₂ y=>?_⟩
   obtain ⟨h',tk,acc',c',rfl,rfl,hk,hS',hacc⟩:=y
   show wpAny _ A (load s.heap.objs.size >>= _) _ _ _
   refine wpAny_bind (wpAny_load hS' ?_)
   exact wpAny_pure (h h' tk acc' hk (Nat.le_of_lt (Heap.lt_size hS')) hacc)
 ·obtain ⟨_,_,_,_,e',_⟩:=x
  cases e'
end
section
variable {X:Cx} {pins:List (Addr×Obj)} {σ:St} {H:Hp} {s:Shared} {A:Around} {E:Value->Shared->Prop} {a kS:Addr} {vs:List Value} {kz:List Int} {keys:Array Value} {e e1:Nat} {P:PySem.Fin->Shared->Prop}
theorem nE {h':Heap} {tk:Nat} (f:pA X pins H a) (I:Inv X pins σ H s) (sb:Heap.SameBut a s.heap h'):Inv X pins σ H { s with heap:=h',toks:=tk }:=by
 obtain ⟨f0,f1,f2,f3,f4,f5⟩:=f
 exact I.turned (fun b o hb e=>(sb.2 b hb).trans e) f0 f1 f3 f4 f5
theorem zEX {st:SortSt} (I:Inv X pins σ H s) (fa:pA X pins H a) (fk:pA X pins H kS) (hka:kS≠a) (nk:s.heap.get? kS=some (seqObj "list" keys e)) (na:s.heap.get? a=some (seqObj "list" #[] e1))
  (hk:IntsAre keys.toList kz) (hlen:kz.length=vs.length) (h64:vs.length < 64) (hp:(arrOf st).Perm (keys.zip vs.toArray)) (hs:SortedTo (arrOf st) (arrOf st).size) (hfl:failedOf st=none)
  (h:∀ s' out c,Inv X pins σ H s'->s'.heap.get? a=some (seqObj "list" out c)->KskOut false kz vs out.toList->P (.done (.ret .none)) s'):
  wpAny (model X.prog X.w) A (ksk_tail a false e1 (.ref kS) st) P E s:=by
 have hsz:keys.size=vs.length:=by
  have h1:=hk.length
  rw [Array.length_toList] at h1
  omega
 have hsz2:(arrOf st).size=vs.length:=by rw [hp.size_eq,Array.size_zip,hsz,List.size_toArray,Nat.min_self]
 have hout:((arrOf st).map (·.2)).size=vs.length:=by rw [Array.size_map];exact hsz2
 have s1:=Heap.SameBut.update s.heap kS (Obj.mapSeq fun _=>(#[]:Array Value))
 have na1:(s.heap.update kS (Obj.mapSeq fun _=>(#[]:Array Value))).get? a=some (seqObj "list" #[] e1):=(s1.2 a hka.symm).trans na
 have s2:=Heap.SameBut.update (s.heap.update kS (Obj.mapSeq fun _=>(#[]:Array Value))) a (Obj.mapSeq fun _=>(arrOf st).map (·.2))
 obtain ⟨c2,hc2⟩:∃ c2,((s.heap.update kS (Obj.mapSeq fun _=>(#[]:Array Value))).update a (Obj.mapSeq fun _=>(arrOf st).map (·.2))).get? a=some (seqObj "list" ((arrOf st).map (·.2)) c2):=
  ⟨_,get?_update_seq na1 fun _=>(arrOf st).map (·.2)⟩
 unfold ksk_tail
 try dsimp only
 refine wpAny_bind (listUpdate_at nk rfl ?_ (by rw [hsz,sizeLine_eq];omega) (Nat.zero_le _))
 refine wpAny_bind (wpAny_letGo ?_)
 refine wpAny_bind (seqEpoch_at na1 rfl ?_)
 refine wpAny_bind (listUpdate_at na1 rfl ?_ (Nat.zero_le _) (by simp only [Bool.false_eq_true,if_false];exact Nat.le_trans (Nat.le_of_eq hout) (by rw [sizeLine_eq];omega)))
 rw [hfl]
 simp only [bne_self_eq_false,Bool.false_eq_true,if_false]
 have I1:Inv X pins σ H { s with heap:=s.heap.update kS (Obj.mapSeq fun _=>(#[]:Array Value)) }:=nE fk (tk:=s.toks) I s1
 have I2:Inv X pins σ H { s with heap:=(s.heap.update kS (Obj.mapSeq fun _=>(#[]:Array Value))).update a (Obj.mapSeq fun _=>(arrOf st).map (·.2)) }:=(by have z:=nE (tk:=s.toks) fa I1 s2;exact z)
 exact wpAny_pure (h _ _ c2 I2 hc2 (ksk_out (b:=false) hk hp hs))
theorem zLl (I:Inv X pins σ H s) (fa:pA X pins H a) (fk:pA X pins H kS) (hka:kS≠a) (nk:s.heap.get? kS=some (seqObj "list" keys e)) (na:s.heap.get? a=some (seqObj "list" #[] e1))
  (hk:IntsAre keys.toList kz) (hlen:kz.length=vs.length) (h64:vs.length < 64)
  (h:∀ s' out c,Inv X pins σ H s'->s'.heap.get? a=some (seqObj "list" out c)->KskOut false kz vs out.toList->P (.done (.ret .none)) s'):
  wpAny (model X.prog X.w) A (ksk_end a false vs.toArray e1 (.ref kS) keys) P E s:=by
 have hsz:keys.size=vs.length:=by
  have h1:=hk.length
  rw [Array.length_toList] at h1
  omega
 have hzs:(keys.zip vs.toArray).size=vs.length:=by rw [Array.size_zip,hsz,List.size_toArray,Nat.min_self]
 unfold ksk_end
 try dsimp only
 simp only [Bool.false_eq_true,if_false]
 by_cases h2:vs.toArray.size < 2
 ·rw [if_pos h2,if_pos h2]
  refine wpAny_bind (wpAny_pure ?_)
  rw [StateT.run_pure]
  refine wpAny_bind (wpAny_pure ?_)
  try dsimp only
  refine zEX (st:=SortSt.mk' general' (keys.zip vs.toArray) #[] 7 none) I fa fk hka nk na hk hlen h64 (Array.Perm.refl _) ?_ rfl h
  intro i j hij hj
  have hj2:j < (keys.zip vs.toArray).size:=hj
  rw [hzs] at hj2
  rw [List.size_toArray] at h2
  have:i=j:=by omega
  subst this
  exact Int.le_refl _
 ·rw [if_neg h2,if_neg h2]
  rw [List.size_toArray] at h2
  rw [ksk_kind hk (by rw [hsz];omega)]
  refine wpAny_bind (wpAny_pure ?_)
  refine wpAny_bind (wpAny_mono (wpS_sortRuns (a₀:=keys.zip vs.toArray) (st:=SortSt.mk' oneType' (keys.zip vs.toArray) #[] 7 none)
   (Q:=fun _ st'=>(arrOf st').Perm (keys.zip vs.toArray)/\failedOf st'=none/\SortedTo (arrOf st') (keys.zip vs.toArray).size)
   (ksk_intKeys hk) ⟨Array.Perm.refl _,rfl,rfl,rfl⟩ (by rw [hzs];omega) (by rw [hzs];exact h64) fun st' a1 a2 a3=>⟨a1,a2,a3⟩) ?_ fun _ _ e=>e)
  rintro ⟨⟨⟩,st'⟩ s' ⟨rfl,hp,hf,hs⟩
  try dsimp only
  exact zEX I fa fk hka nk na hk hlen h64 hp (by rw [hp.size_eq];exact hs) hf h
theorem zHA {f:Value} {e0:Nat} (I:Inv X pins σ H s) (fa:pA X pins H a) (fk:pA X pins H kS) (hka:kS≠a) (nk:s.heap.get? kS=some (seqObj "list" #[] e0)) (na:s.heap.get? a=some (seqObj "list" #[] e1))
  (hlen:kz.length=vs.length) (h64:vs.length < 64)
  (turn:∀ (i:Nat) (v:Value) (k:Int),vs[i]?=some v->kz[i]?=some k->∀ (s':Shared) (pl:List (Addr×Obj)),Inv X (pins++pl) σ H s'->
   wpAny (model X.prog X.w) A (call f [v]) (fun u s''=>(∃ t,u=.int k t)/\Inv X (pins++pl) σ H s'') (fun _ _=>False) s')
  (h:∀ s' out c,Inv X pins σ H s'->s'.heap.get? a=some (seqObj "list" out c)->KskOut false kz vs out.toList->P (.done (.ret .none)) s'):
  wpAny (model X.prog X.w) A (ksk_rest a f false vs.toArray e1 (.ref kS)) P E s:=by
 unfold ksk_rest
 refine wpAny_bind (wpAny_rule ?_)
 first
  | rw [List.forIn_toArray]
  | (rw [<-Array.forIn_toList];simp only [List.toList_toArray])
  | rw [<-Array.forIn_toList]
 refine wpAny_bind (ksk_fold (fun i s'=>∃ kA e,Inv X pins σ H s'/\s'.heap.get? kS=some (seqObj "list" kA e)/\s'.heap.get? a=some (seqObj "list" #[] e1)/\IntsAre kA.toList (kz.take i)) vs 0 s
  ⟨#[],e0,I,nk,na,by simpa using IntsAre.nil⟩ ?step ?done)
 case step=>
  rintro j x s' hx ⟨kA,e,I',nk',na',hk⟩
  simp only [Nat.zero_add] at hk ⊢
  have hj:j < vs.length:=(List.getElem?_eq_some_iff.mp hx).1
  obtain ⟨k,hkj⟩:∃ k,kz[j]?=some k:=⟨_,List.getElem?_eq_getElem (by omega)⟩
  have hz:kA.size<=vs.length:=by
   have h1:=hk.length
   rw [Array.length_toList,List.length_take] at h1
   omega
  have pin:∀ b∈[kS,a],∃ o,s'.heap.get? b=some o/\∀ v,o.data≠.cell v:=fun b hb=>by
   rcases List.mem_cons.mp hb with rfl | hb
   ·exact ⟨_,nk',fun v z=>by have z':Data.seq _ _=Data.cell v:=z;cases z'⟩
   ·rw [List.mem_singleton.mp hb];exact ⟨_,na',fun v z=>by have z':Data.seq _ _=Data.cell v:=z;cases z'⟩
  have Ip:Inv X (pins++rK [kS,a] s'.heap) σ H s':=I'.pinned (fun b hb=>by
   rcases List.mem_cons.mp hb with rfl | hb
   ·exact fk
   ·rw [List.mem_singleton.mp hb];exact fa) pin
  refine wpAny_bind (wpAny_attempt (wpAny_mono (turn j x k hx hkj s' _ Ip) (fun v s'' he=>?_) fun _ _ hF=>hF.elim))
  obtain ⟨⟨t2,rfl⟩,I2p⟩:=he
  try dsimp only
  have nk2:s''.heap.get? kS=some (seqObj "list" kA e):=(I2p.pin _ (List.mem_append_right _ (List.mem_append_right _ (eD (b:=kS) (by simp) nk')))).1
  have na2:s''.heap.get? a=some (seqObj "list" #[] e1):=(I2p.pin _ (List.mem_append_right _ (List.mem_append_right _ (eD (b:=a) (by simp) na')))).1
  have I2:Inv X pins σ H s'':=I2p.unpinned
  have s1:=Heap.SameBut.update s''.heap kS (Obj.mapSeq (·.push (.int k t2)))
  obtain ⟨c2,hc2⟩:∃ c2,(s''.heap.update kS (Obj.mapSeq (·.push (.int k t2)))).get? kS=some (seqObj "list" (kA.push (.int k t2)) c2):=⟨_,get?_update_seq nk2 (·.push (.int k t2))⟩
  have ek:kz.take (j+1)=kz.take j++[k]:=by rw [List.take_add_one,hkj];simp
  have ea:(kA.push (Value.int k t2)).toList=kA.toList++[Value.int k t2]:=by simp
  refine wpAny_bind (listUpdate_at nk2 rfl ?_ (by rw [sizeLine_eq];omega) (Nat.le_trans (Nat.le_of_eq (Array.size_push ..)) (by rw [sizeLine_eq];omega)))
  exact wpAny_pure ⟨rfl,kA.push (.int k t2),c2,nE fk (tk:=s''.toks) I2 s1,hc2,(s1.2 a hka.symm).trans na2,by rw [ea,ek];exact ksk_snoc hk⟩
 case done=>
  rintro s' ⟨kA,e,I',nk',na',hk⟩
  have hk':IntsAre kA.toList kz:=by
   have e3:kz.take (0+vs.length)=kz:=List.take_of_length_le (by omega)
   rw [e3] at hk
   exact hk
  try dsimp only
  refine wpAny_bind (listItems_at nk' rfl ?_)
  exact zLl I' fa fk hka nk' na' hk' hlen h64 h
def pN (v:Value):Nat:=(numOf v).toNat
theorem zIW {out:List Value} (hlen:kz.length=vs.length) (hv:∀ (j:Nat) (v:Value),vs[j]?=some v->∃ t,v=.int j t) (h:KskOut false kz vs out):fK kz (out.map pN)/\cM ((out.map pN).map fun i:Nat=>V.int (i:Int)) out:=by
 obtain ⟨ps,hp,ho,hs⟩:=h
 have at':∀ p,p∈kz.zip vs->∃ (j:Nat) (t:Tok),p.2=.int j t/\kz[j]?=some p.1:=fun p hm=>by
  obtain ⟨j,hj,e⟩:=List.mem_iff_getElem.mp hm
  rw [List.length_zip] at hj
  rw [List.getElem_zip] at e
  obtain ⟨t,ht⟩:=hv j (vs[j]'(by omega)) (List.getElem?_eq_getElem _)
  refine ⟨j,t,by rw [<-e];exact ht,by rw [<-e];exact List.getElem?_eq_getElem _⟩
 have n1:∀ (j:Nat) (t:Tok),pN (.int j t)=j:=fun j t=>by unfold pN;show (Int.toNat (j:Int))=j;rfl
 have hvs:vs.map pN=List.range kz.length:=by
  refine List.ext_getElem? fun j=>?_
  rw [List.getElem?_map]
  by_cases hj:j < vs.length
  ·obtain ⟨t,ht⟩:=hv j _ (List.getElem?_eq_getElem hj)
   rw [List.getElem?_eq_getElem hj,ht,List.getElem?_range (by omega)]
   show some (pN _)=_
   rw [n1]
  ·rw [List.getElem?_eq_none (by omega),List.getElem?_eq_none (by rw [List.length_range];omega)];rfl
 subst ho
 refine ⟨⟨?_,?_⟩,?_⟩
 ·have h1:((ps.map Prod.snd).map pN).Perm (((kz.zip vs).map Prod.snd).map pN):=(hp.map _).map _
  rw [List.map_snd_zip (by omega),hvs] at h1
  exact h1
 ·rw [List.map_map,List.pairwise_map]
  refine List.Pairwise.imp_of_mem (fun {p q} hm hq hr=>?_) hs
  have hr':p.1<=q.1:=by simpa using hr
  obtain ⟨i,t,e1,e2⟩:=at' p (hp.mem_iff.mp hm)
  obtain ⟨j,u,e3,e4⟩:=at' q (hp.mem_iff.mp hq)
  show kz.getD (pN p.2) 0<=kz.getD (pN q.2) 0
  rw [e1,e3,n1,n1,List.getD_eq_getElem?_getD,List.getD_eq_getElem?_getD,e2,e4]
  exact hr'
 ·have go:∀ l:List Value,(∀ v∈l,∃ (j:Nat) (t:Tok),v=.int j t)->cM ((l.map pN).map fun i:Nat=>V.int (i:Int)) l:=by
   intro l
   induction l with
   | nil=>intro _;exact .nil
   | cons v r ih=>
    intro hl
    obtain ⟨j,t,rfl⟩:=hl v (.head _)
    exact .cons ⟨t,by rw [n1]⟩ (ih fun u hu=>hl u (.tail _ hu))
  refine go _ fun v hv'=>?_
  obtain ⟨p,hm,rfl⟩:=List.mem_map.mp hv'
  obtain ⟨j,t,e1,_⟩:=at' p (hp.mem_iff.mp hm)
  exact ⟨j,t,e1⟩
theorem zDT {r q:Addr} {n:Nat} {t u v:Tok} {Q:Value->Shared->Prop} (hc:X.calm=true) (I:Inv X pins σ H s) (hr:IsRange s.heap r 0 n 1 t u v) (h64:n < 64) (hkz:kz.length=n)
  (turn:∀ (j:Nat) (tk:Tok) (k:Int),kz[j]?=some k->∀ (s':Shared) (pl:List (Addr×Obj)),Inv X (pins++pl) σ H s'->
   wpAny (model X.prog X.w) X.A.in1.in1 (call (.ref q) [.int j tk]) (fun u s''=>(∃ t,u=.int k t)/\Inv X (pins++pl) σ H s'') (fun _ _=>False) s')
  (h:∀ D s' out c π,Inv X pins σ H s'->pA X pins H D->s.heap.objs.size<=D->s'.heap.get? D=some (seqObj "list" out c)->fK kz π->cM (π.map fun i:Nat=>V.int (i:Int)) out.toList->Q (.ref D) s'):
  wpAny (model X.prog X.w) X.A (call (.builtin "sorted") [.ref r] [(Str.ofString "key", .ref q)]) Q E s:=by
 refine call_function_entry_kw kind_sorted plain_sorted entry_sorted (ksk_s1 _ _) ?_
 unfold Builtin.«sorted»
 refine wpAny_bind (m:=checkCount "sorted" 1 1 _) (wpAny_pure ?_)
 refine wpAny_bind (vV (n:=n) (A:=X.A.in1) (I.ok.hd hc) hr (small_one (by omega) (by omega) (by omega) (by omega)) (by rw [rangeSize_one];split<;>omega) (by omega) fun h1 tk acc hk hsz hacc=>?_)
 have hl:acc.toList.length=n:=by rw [Array.length_toList];exact hacc.1
 refine wpAny_bind (wpAny_newList ?_ (by rw [hl,sizeLine_eq];omega))
 have I1:Inv X pins σ H { s with heap:=h1,toks:=tk }:=I.kept hk
 have fa:pA X pins H h1.objs.size:=I1.fpOk (Nat.le_refl _) (I1.hok.fresh (Nat.le_refl _))
 have I2:Inv X pins σ H { s with heap:=h1.push (seqObj "list" acc.toList.toArray 0),toks:=tk }:=I1.kept (t':=tk) fun b o e=>Heap.get?_push_of_some _ e
 have hoL:(h1.push (seqObj "list" acc.toList.toArray 0)).get? h1.objs.size=some (seqObj "list" acc.toList.toArray 0):=Heap.get?_push_size _ rfl
 show wpAny _ _ _ _ _ { s with heap:=h1.push (seqObj "list" acc.toList.toArray 0),toks:=tk }
 refine wpAny_bind (wpAny_holding (wpAny_call_entry_kw slot_list_sort ⟨_,hoL,rfl⟩ entry_list_sort ?body (ksk_l1 _ _)))
 case body=>
  show wpAny (model X.prog X.w) X.A.in1.in1 (Builtin.«list.sort» ⟨[.ref h1.objs.size],[(Str.ofString "key", .ref q)]⟩) _ _ _
  rw [ksk_t1]
  have s3:=Heap.SameBut.update (h1.push (seqObj "list" acc.toList.toArray 0)) h1.objs.size (Obj.mapSeq fun _=>(#[]:Array Value))
  obtain ⟨e1,ho1⟩:∃ e1,((h1.push (seqObj "list" acc.toList.toArray 0)).update h1.objs.size (Obj.mapSeq fun _=>(#[]:Array Value))).get? h1.objs.size=some (seqObj "list" #[] e1):=⟨_,get?_update_seq hoL fun _=>#[]⟩
  have I3:Inv X pins σ H { s with heap:=(h1.push (seqObj "list" acc.toList.toArray 0)).update h1.objs.size (Obj.mapSeq fun _=>(#[]:Array Value)),toks:=tk }:=(by have z:=nE (tk:=tk) fa I2 s3;exact z)
  generalize hg3:(h1.push (seqObj "list" acc.toList.toArray 0)).update h1.objs.size (Obj.mapSeq fun _=>(#[]:Array Value))=h3 at s3 ho1 I3
  unfold ksk_tree
  refine wpAny_bind (listItems_at hoL rfl ?_)
  refine wpAny_bind (listUpdate_at hoL rfl ?_ (by rw [List.size_toArray,sizeLine_eq];omega) (Nat.zero_le _))
  show wpAny _ _ _ _ _ { s with heap:=(h1.push (seqObj "list" acc.toList.toArray 0)).update h1.objs.size (Obj.mapSeq fun _=>(#[]:Array Value)),toks:=tk }
  rw [hg3]
  refine wpAny_bind (seqEpoch_at ho1 rfl ?_)
  refine wpAny_bind (wpAny_newTuple ?_ (by show acc.toList.toArray.toList.length<=_;rw [sizeLine_eq,List.toList_toArray];omega))
  refine wpAny_bind (wpAny_newList ?_ (Nat.zero_le _))
  refine wpAny_holding ?_
  have I4:Inv X pins σ H { s with heap:=h3.push (seqObj "tuple" acc.toList.toArray 0),toks:=tk }:=I3.kept (t':=tk) fun b o e=>Heap.get?_push_of_some _ e
  have fk:pA X pins H (h3.push (seqObj "tuple" acc.toList.toArray 0)).objs.size:=I4.fpOk (Nat.le_refl _) (I4.hok.fresh (Nat.le_refl _))
  have I5:Inv X pins σ H { s with heap:=(h3.push (seqObj "tuple" acc.toList.toArray 0)).push (seqObj "list" #[] 0),toks:=tk }:=I4.kept (t':=tk) fun b o e=>Heap.get?_push_of_some _ e
  have ho4:(h3.push (seqObj "tuple" acc.toList.toArray 0)).get? h1.objs.size=some (seqObj "list" #[] e1):=Heap.get?_push_of_some _ ho1
  refine zHA (vs:=acc.toList) (kz:=kz) (e0:=0) I5 fa fk (Nat.ne_of_gt (Heap.lt_size ho4)) (Heap.get?_push_size _ rfl) (Heap.get?_push_of_some _ ho4) (by rw [hkz,hl]) (by rw [hl];exact h64) (fun i v' k hi hk' s' pl Ip=>?_) fun s' out c I' ho' ko=>?_
  ·obtain ⟨tk',rfl⟩:=hacc.2 i v' (by rw [<-Array.getElem?_toList];exact hi)
   have e3:(0:Int)+(i:Int) * 1=(i:Int):=by omega
   rw [e3]
   exact turn i tk' k hk' s' pl Ip
  ·obtain ⟨hπ,hV⟩:=zIW (by rw [hkz,hl]) (fun j v' hj=>by
    obtain ⟨tk',rfl⟩:=hacc.2 j v' (by rw [<-Array.getElem?_toList];exact hj)
    exact ⟨tk',by congr 1;omega⟩) ko
   exact ⟨_,rfl,wpAny_pure ⟨_,rfl,h _ s' out c _ I' fa hsz ho' hπ hV⟩⟩
end
end L3
namespace L3
open PySem PySem.Spec PyProof.Rows L2 PySem.W
unseal PEd PEf PTd PWd PAd PSd eV POd PGd gW PId PSx kY PTs PCd PCf
def zND:CXT:=fun _ _ _ _ _ _=>False
def cxL (P:Program) (w:World) (K:PySem.W.Frag) (mg:Str->Option Value) (base:Heap) (N:List Str) (qual:Str) (scope:Scope) (f:Addr) (cd:Value) (cl:List (Str×Addr)) (A:Around) (outer:List Env) (s:Shared) (H:Hp):Cx where
 prog:=P
 w:=w
 K:=K
 mg:=mg
 base:=base
 A:=A.deeper (envX qual scope s.heap.objs.size f cd cl)
 N:=N
 s₀:=s
 H₀:=H
 env:=envX qual scope s.heap.objs.size f cd cl
 outer:=outer
 stack:=envX qual scope s.heap.objs.size f cd cl::outer
 ex:=[]
 fn:=fun _=>false
 calm:=true
 pn:=[]
 xe:=fun _ _=>False
theorem zHy {P:Program} {w:World} {K:PySem.W.Frag} {mg:Str->Option Value} {base:Heap} {N:List Str} {qual name:Str} {scope:Scope} {f c':Addr} {cl:List (Str×Addr)} {A:Around} {outer:List Env} {s:Shared} {H:Hp} {params:Arguments} {body:Expr} {pm ctv u:Value} {p:Str} {σ:St} {Q:VK} {E:XK} {t:TE}
  (hd:A.handled=none) (hdp:A.depth < recursionLimit) (e0:Env0 P w K mg base A outer s H) (ho:s.heap.get? f=some (kla_obj name qual params body scope cl pm c' ctv)) (hcd:s.heap.CodeRec (.ref c') qual)
  (hbind:bindArgs (kla_fn name qual params body scope cl pm (.ref c') ctv) ⟨[u],[]⟩=pure [(p,u)]) (hloc:scope.names.lookup p=some .local)
  (hco:scope.isCoroutine=false) (hgen:scope.isGenerator=false) (hk:scope.kind=.function) (hcell:∀ x∈scope.names,x.2≠.cell)
  (hfree:∀ x,scope.names.lookup x=some .free->∃ c,cl.lookup x=some c) (hinj:∀ x y c,cl.lookup x=some c->cl.lookup y=some c->x=y)
  (hcl:∀ x c,cl.lookup x=some c->(∃ v,s.heap.IsCell c v)/\H c=none) (hlen:σ.length=N.length)
  (hσ:∀ (i:Nat) (x:Str) (v:V),N[i]?=some x->σ[i]?=some (some v)->(x=p/\cQ v u)∨(scope.names.lookup x=some .free/\∃ c u',cl.lookup x=some c/\s.heap.IsCell c (some u')/\cQ v u'))
  (hb:PE (cxL P w K mg base N qual scope f (.ref c') cl A outer s H) body t) (hq:t σ H Q):
  codeAny (model P w) A (.call (.ref f) ⟨[u],[]⟩) (CR zND outer P w H s Q E) s:=by
 have lim:s.heap.NoLimit:=e0.mod.nolimit.keeps fun b o e=>(e0.bs b o e).1
 refine kla_callFunE hdp ho rfl hco hgen rfl hcd ?_
 rw [hbind]
 refine wpAny_pure (wpAny_newFunctionEnv hcell (fun y hy=>by rw [List.mem_singleton.mp hy];exact hloc) (fun h₁ hns hsb=>⟨lim.fresh _ hsb,?_⟩) hk)
 have hk₁:∀ b o,s.heap.get? b=some o->h₁.get? b=some o:=fun b o e=>hsb.extBut b o (Nat.ne_of_lt (Heap.lt_size e)) (Heap.get?_push_of_some _ e)
 have noA:∀ b:Addr,b∉(cxL P w K mg base N qual scope f (.ref c') cl A outer s H).ex:=fun b z=>absurd (show b∈([]:List Addr) from z) (by simp)
 have I:Inv (cxL P w K mg base N qual scope f (.ref c') cl A outer s H) [] σ H { s with heap:=h₁,toks:=s.toks+1 }:=by
  refine ⟨⟨e0.mod,hk,rfl,rfl,Nat.le_refl _,hinj,fun y hy=>?_,fun y c z _=>?_,fun _=>hd,Around.frames_deeper e0.frames,.inr ⟨rfl,rfl⟩,fun b z=>absurd z (noA b),e0.bs,e0.bsz,fun b _ _=>noA b,fun b z=>absurd z (noA b),e0.funs,e0.frf⟩,
   rfl,e0.bare,Un.kept hk₁,⟨_,hns,fun i y v h1 h2 h3=>?_⟩,fun y c h=>?_,e0.hok.fresh (Nat.le_refl _),fun y c h=>(hcl y c h).2,fun p hp=>absurd (show p∈([]:List (Addr×Obj)) from hp) (by simp),e0.hok.kept hk₁,hlen⟩
  ·have hy:scope.names.lookup y=some .cell∨scope.names.lookup y=some .free:=hy
   rcases hy with hy | hy
   ·exact absurd rfl (hcell _ (PySem.mem_of_lookup hy))
   ·exact hfree y hy
  ·cases z
  ·rcases hσ i y v h1 h2 with ⟨rfl,r⟩ | ⟨hf,c,u',h4,⟨o,h5,h6⟩,r⟩
   ·exact ⟨u,r,.inl ⟨hloc,by simp [List.lookup]⟩⟩
   ·exact ⟨u',r,.inr ⟨.inr hf,c,h4,o,hk₁ _ _ h5,h6⟩⟩
  ·obtain ⟨⟨v,o,h5,h6⟩,_⟩:=hcl y c h
   exact ⟨v,o,hk₁ _ _ h5,h6⟩
 refine kla_codeExpr (wpAny_mono (hb [] _ σ H Q I hq) (fun v s' z=>?_) fun e s' z=>False.elim z)
 obtain ⟨x,H',J,r,q⟩:=z
 exact ⟨x,H',J.os,J.bare,J.base,J.hok,r,q⟩
theorem zGn {l:List Value} {a b:Int} {c:Value} (h:TriplesOk l):TriplesOk (l++[rawInt a,rawInt b,c]):=TriplesOk_snoc a b c l h
theorem zCG {pos q:Pos} {c x:Value} (l:List Value) (h:TriplesOk l) (e:codeAmong q (l++[rawInt pos.line,rawInt pos.col,c])=some x):codeAmong q l=some x∨x=c:=by
 fun_induction TriplesOk l with
 | case1=>
  simp only [List.nil_append,codeAmong,rawInt] at e
  split at e
  ·exact .inr (Option.some.inj e).symm
  ·cases e
 | case2 a t b u y rest ih=>
  simp only [List.cons_append,codeAmong] at e ⊢
  split at e
  ·rename_i hc;rw [if_pos hc];exact .inl e
  ·rename_i hc;rw [if_neg hc];exact ih h e
 | case3 l h1 h2=>exact h.elim
def BMn (base:Heap) (mg:Str->Option Value):Prop:=∃ bm ob,mg "__builtins__" = some (.ref bm)/\bm≠builtinsNs/\base.get? bm=some ob/\ob.cls=.type "module" /\ ob.dict=some builtinsNs/\ob.data=.plain
section
variable {X:Cx} {pins:List (Addr×Obj)} {σ:St} {H:Hp} {s:Shared} {P c c':Addr}
theorem zFT {ps more:Array Value} {h':Heap} {tk:Nat} {oc:Obj} (I:Inv X pins σ H s) (hP:H P=some (.tbl ps)) (hx:Heap.ExtBut P s.heap h') (hge:s.heap.objs.size<=c') (hc:h'.get? c'=some oc) (hP':h'.get? P=some { cls:=.none,data:=.fields (ps++more) }):
  Inv X pins σ (upd (upd H P (.tbl (ps++more))) c' (.frz oc (.own 0))) { s with heap:=h',toks:=tk }:=by
 have nP:∀ {b:Addr},H b=none->b≠P:=fun e z=>by rw [z,hP] at e;cases e
 have cF:H c'=none:=I.hok.fresh hge
 have nc:∀ {b:Addr} {o:Obj},s.heap.get? b=some o->b≠c':=fun e=>Nat.ne_of_lt (Nat.lt_of_lt_of_le (Heap.lt_size e) hge)
 have hPc:P≠c':=aY hP cF
 have up:∀ {b:Addr},b≠P->b≠c'->upd (upd H P (.tbl (ps++more))) c' (.frz oc (.own 0)) b=H b:=fun h1 h2=>by rw [bA h2,bA h1]
 have upP:upd (upd H P (.tbl (ps++more))) c' (.frz oc (.own 0)) P=some (.tbl (ps++more)):=by rw [bA hPc,aW]
 have kd:∀ {b:Addr} {o:HO},H b=some o->(∀ qs,o≠.tbl qs)->upd (upd H P (.tbl (ps++more))) c' (.frz oc (.own 0)) b=some o:=fun {b o} e hn=>by
  rw [up (fun z=>by rw [z,hP] at e;exact hn ps (Option.some.inj e).symm) (aY e cF)];exact e
 refine I.un ⟨fun b o e n _ _=>hx b o (nP n) e,fun b o e n _ _=>⟨o.slots,hx b o (nP n) e⟩,fun b o e n _=>by rw [up (nP n) (nc e)];exact n,fun b o e _=>?_,fun b xs e=>kd e fun qs z=>(by cases z),fun b o u e=>kd e fun qs z=>(by cases z),fun b qs e=>?_⟩ fun b u e=>?_
 ·by_cases hb:b=P
  ·subst hb;exact ⟨_,hP'⟩
  ·exact ⟨o,hx b o hb e⟩
 ·by_cases hb:b=P
  ·subst hb
   rw [hP] at e;cases e
   exact ⟨more,upP⟩
  ·exact ⟨#[],by rw [up hb (aY e cF),e];simp⟩
 ·by_cases h2:b=c'
  ·subst h2
   rw [aW] at e;cases e
   exact ⟨hc,oc,hc⟩
  ·by_cases h1:b=P
   ·subst h1
    rw [upP] at e;cases e
    exact hP'
   ·rw [up h1 h2] at e
    refine (I.hok b u e).stay (fun d v hd q=>hx d v (fun z=>?_) q) (fun d q=>kd q fun qs z=>(by cases z)) fun d xs q=>kd q fun qs z=>(by cases z)
    rcases hd with rfl | hd
    ·exact h1 z
    ·rw [z,hP] at hd;cases hd
theorem zFg {ps:Array Value} {oc:Obj} {pos:Pos} {vs:Array Value} {t:Tok} (hP:H P=some (.tbl ps)) (cF:H c'=none) (hd:oc.data=.fields vs) (hv:vs[1]?=some (.str oT t)):
  Keep H (upd (upd H P (.tbl (ps++#[rawInt pos.line,rawInt pos.col,.ref c']))) c' (.frz oc (.own 0))):=by
 have hPc:P≠c':=aY hP cF
 have upP:upd (upd H P (.tbl (ps++#[rawInt pos.line,rawInt pos.col,.ref c']))) c' (.frz oc (.own 0)) P=some (.tbl (ps++#[rawInt pos.line,rawInt pos.col,.ref c'])):=by rw [bA hPc,aW]
 have kd:∀ {b:Addr} {o:HO},H b=some o->b≠P->upd (upd H P (.tbl (ps++#[rawInt pos.line,rawInt pos.col,.ref c']))) c' (.frz oc (.own 0)) b=some o:=fun {b o} e hn=>by
  rw [bA (aY e cF),bA hn];exact e
 refine ⟨fun b o e=>?_,fun Q T=>?_⟩
 ·by_cases hb:b=P
  ·subst hb
   rw [hP] at e;cases e
   exact .inr ⟨_,_,rfl,upP⟩
  ·exact .inl (kd e hb)
 ·obtain ⟨qs,e,ht,k⟩:=T
  have old:∀ (q:Pos) (cv:Value),codeAmong q qs.toList=some cv->∃ c oc' vs t u,cv=.ref c/\upd (upd H P (.tbl (ps++#[rawInt pos.line,rawInt pos.col,.ref c']))) c' (.frz oc (.own 0)) c=some (.frz oc' u)/\oc'.data=.fields vs/\vs[1]?=some (.str oT t):=fun q cv z=>by
   obtain ⟨c,oc',vs',t',u,r1,r2,r3⟩:=k q cv z
   exact ⟨c,oc',vs',t',u,r1,kd r2 (fun w=>by rw [w,hP] at r2;cases r2),r3⟩
  by_cases hb:Q=P
  ·subst hb
   rw [hP] at e;cases e
   have el:(ps++#[rawInt pos.line,rawInt pos.col,.ref c']).toList=ps.toList++[rawInt pos.line,rawInt pos.col,.ref c']:=by simp
   refine ⟨_,upP,by rw [el];exact zGn ht,fun q cv z=>?_⟩
   rw [el] at z
   rcases zCG _ ht z with z | z
   ·exact old q cv z
   ·exact ⟨c',oc,vs,t,_,z,aW,hd,hv⟩
  ·exact ⟨qs,kd e hb,ht,old⟩
theorem zFE {params:Arguments} {body:Expr} {scope:Scope} {pos:Pos} {clos:List (Str×Addr)} {M:Model} {A:Around} {E:Value->Shared->Prop} {Q:Value->Shared->Prop} (I:Inv X pins σ H s) (tb:zA P H) (hC:∀ h,X.K.In h->CodeHd h c P) (hcode:X.env.code=.ref c) (hq:X.env.qual ++ "<lambda>" = oT) (hB:BMn X.base X.mg)
  (hcl:closureFor scope X.env=pure clos) (hdef:defaultsOf params X.env=([],[]))
  (h:∀ f c' ctv oc vs t u H' s',Inv X pins σ H' s'->Keep H H'->(∀ b o,H b=some o->b≠P->H' b=some o)->pA X pins H' f->s.heap.objs.size<=f->s'.heap.get? f=some (kla_obj "<lambda>" oT params body scope clos ((X.mg "__name__").getD .none) c' ctv)->
   H' c'=some (.frz oc u)->oc.data=.fields vs->vs[1]?=some (.str oT t)->Q (.ref f) s'):
  wpAny M A (eval (.Lambda params body scope pos) X.env) Q E s:=by
 obtain ⟨ps,hP,ht,hk⟩:=id tb
 have hPo:s.heap.get? P=some (tabObj ps):=I.hok P _ hP
 have hg:s.heap.Ns mainGlobals X.mg:=I.mod.glob.keeps I.bk
 have hgP:mainGlobals≠P:=fun z=>by
  obtain ⟨o,es,ep,e,_⟩:=I.mod.glob
  have:=(I.bs _ _ e).2
  rw [z,hP] at this;cases this
 have hb:s.heap.BuiltinsAt X.mg P:=by
  obtain ⟨bm,ob,b1,b2,b3,b4,b5,b6⟩:=hB
  refine ⟨bm,ob,b1,b2,fun z=>?_,fun z=>?_,(I.bs _ _ b3).1,b4,b5,b6⟩
  ·obtain ⟨o,es,ep,e,d,_⟩:=I.mod.glob
   rw [z,e] at b3;cases b3;rw [d] at b6;cases b6
  ·have:=(I.bs _ _ b3).2
   rw [z,hP] at this;cases this
 refine kla_eval hdef ?_
 rw [hq]
 cases hf:codeAmong pos ps.toList with
 | some cv=>
  obtain ⟨c',oc,vs,t,u,rfl,r1,r2,r3⟩:=hk pos cv hf
  refine kla_makeFunctionHit hcl I.ok.glob hg hcode (hC _ I.kIn) hPo ht hf hb fun ctv h' tk hkk hsz=>?_
  have I1:Inv X pins σ H { s with heap:=h',toks:=tk }:=I.kept hkk
  have I2:Inv X pins σ H { s with heap:=h'.push (kla_obj "<lambda>" oT params body scope clos ((X.mg "__name__").getD .none) c' ctv),toks:=tk }:=I1.kept (t':=tk) fun b o e=>Heap.get?_push_of_some _ e
  exact h _ c' ctv oc vs t u H _ I2 (Keep.refl _) (fun b o e _=>e) (I1.fpOk (Nat.le_refl _) (I1.hok.fresh (Nat.le_refl _))) hsz (Heap.get?_push_size _ rfl) r1 r2 r3
 | none=>
  refine kla_makeFunction hcl I.ok.glob hg hcode (hC _ I.kIn) hPo ht hf hgP hb fun c' ctv h' tk hx hge hlt hrec htb=>?_
  obtain ⟨c₂,oc,vs,t,e2,hoc,hd,hv⟩:=hrec
  cases e2
  have I1:=zFT (tk:=tk) I hP hx hge hoc htb
  have I2:=I1.kept (t':=tk) (h':=h'.push (kla_obj "<lambda>" oT params body scope clos ((X.mg "__name__").getD .none) c' ctv)) fun b o e=>Heap.get?_push_of_some _ e
  have cF:H c'=none:=I.hok.fresh hge
  exact h _ c' ctv oc vs t _ _ _ I2 (zFg hP cF hd hv) (fun b o e hb=>by rw [bA (aY e cF),bA hb];exact e) (I1.fpOk (Nat.le_refl _) (I1.hok.fresh (Nat.le_refl _))) (Nat.le_of_lt (Nat.lt_of_le_of_lt hge hlt)) (Heap.get?_push_size _ rfl) aW hd hv
end
end L3
namespace L3
open PySem PySem.Spec PyProof.Rows L2 PySem.W
unseal PEd PEf PTd PWd PAd PSd eV POd PGd gW PId PSx kY PTs PCd PCf
theorem yQ {K:PySem.W.Frag} {H:Hp}:∀ π:List Nat,IsDs K H (π.map fun i:Nat=>V.int (i:Int)) (hU π)
 | []=>.nil
 | n::ns=>.cons (.int n) (yQ ns)
def zBh (p:Pos):Arguments:={ posonlyargs:=[],args:=[{ arg := "spot", annotation:=none,pos:=p }],vararg:=none,kwonlyargs:=[],kw_defaults:=[],kwarg:=none,defaults:=[] }
def jE:Scope:={ kind:=.function,names:=[(PySem.Str.ofString "spot", .local),(PySem.Str.ofString "bottom", .free),(PySem.Str.ofString "some", .free)],isGenerator:=false,isCoroutine:=false,more:=[] }
section
variable {X:Cx} {p1 p2 p3 p4 p5 p6 p7 p8 p9 pa pb pc pd pe pf pg ph pi pj:Pos}
theorem zFt {b k:Int} {a:Addr} {xs:List V} {rows:List D} {d:D} {j:Nat} {Hi H:Hp} {Q:VK} {σ:St} (hN:X.N=(["spot", "some", "bottom"]:List Str)) (hsc:X.env.scope=jE) {pz:Pos}
  (hσ:σ=[some (.int j),some (.ref a),some (.int b)]) (hq:SqL X.K Hi a xs∨SqT X.K Hi a xs) (hs:IsDs X.K Hi xs rows) (sm:Same Hi H) (hd:rows[j]?=some d) (hk:zFp b d=.ok k) (q:Q (.int k) H):
  ∃ t,PE X (.BinOp (.Subscript (.Subscript (.Name "some" p1) (.Name "spot" p2) p3) (.Constant (.int 0) 0 p4) p5) .Mult
   (.BinOp (.Name "bottom" p6) .FloorDiv (.Subscript (.Subscript (.Name "some" p7) (.Name "spot" p8) p9) (.Constant (.int 1) 0 pa) pb) pc) pz) t/\t σ H Q:=by
 have v0:PE X (.Name "spot" p2) (zCK 0):=qW (by rw [hN];rfl) (by rw [hsc];exact .inl (by decide +kernel))
 have v0':PE X (.Name "spot" p8) (zCK 0):=qW (by rw [hN];rfl) (by rw [hsc];exact .inl (by decide +kernel))
 have v1:PE X (.Name "some" p1) (zCK 1):=qW (by rw [hN];rfl) (by rw [hsc];exact .inr (.inr (by decide +kernel)))
 have v1':PE X (.Name "some" p7) (zCK 1):=qW (by rw [hN];rfl) (by rw [hsc];exact .inr (.inr (by decide +kernel)))
 have v2:PE X (.Name "bottom" p6) (zCK 2):=qW (by rw [hN];rfl) (by rw [hsc];exact .inr (.inr (by decide +kernel)))
 refine ⟨_,zDP cE (zCy aI (zCy aI v1 v0 (fun _ _=>rfl)) aH (fun _ _=>rfl)) (zDP jT v2 (zCy aI (zCy aI v1' v0' (fun _ _=>rfl)) aH (fun _ _=>rfl))),?_⟩
 obtain ⟨t,c,rfl,h1,h2,rfl⟩:=zHZ hk
 obtain ⟨v,hv,r⟩:=hs.at hd
 obtain ⟨ra,ys,rfl,h3,h4⟩:=r.tupI
 obtain ⟨u1,u2,rfl,r1,r2⟩:=h4.two
 have e1:=r1.intI
 have e2:=r2.intI
 subst e1 e2
 have S3:=cD sm h3
 subst hσ
 have row:∀ Q':VK,Q' (.ref ra) H->(zLy X.K (.ref a) (.int j) H Q'∨zLE X.K (.ref a) (.int j) H Q'):=fun Q' q'=>by
  rcases hq with hq | hq
  ·exact .inl ⟨a,xs,j,.ref ra,rfl,rfl,cK sm hq,zBa hv,q'⟩
  ·exact .inr ⟨a,xs,j,.ref ra,rfl,rfl,cD sm hq,zBa hv,q'⟩
 refine ⟨.ref a,rfl,.int j,rfl,row _ (.inr ⟨ra,_,0,.int t,rfl,rfl,S3,rfl,?_⟩)⟩
 refine ⟨.int b,rfl,.ref a,rfl,.int j,rfl,row _ (.inr ⟨ra,_,1,.int c,rfl,rfl,S3,rfl,?_⟩)⟩
 exact ⟨b,c,rfl,rfl,h1,t,b.fdiv c,rfl,rfl,h2,q⟩
theorem zJL {a:Expr} {ta:TA} {p pos:Pos} (hg:Gl X "range") (hm:X.mg "range" = none) (ha:PA X [a] ta) (hs:starEach [a] X.env=[(false,eval a X.env)]:=by rfl):
  PE X (.Call (.Name "range" p) [a] [] pos) (fun σ H Q=>ta σ H fun vs H1=>∃ n:Nat,vs=[.int n]/\∀ r,H1 r=none->Q (.ref r) (upd H1 r (.rng 0 n))):=by
 intro pins s σ H Q I h
 refine wpAny_Call_Name_kw (kF I hg hm boot_range (PyProof.Rows.callWith_type1 (thn (ha pos pins s σ H _ I h) fun us s1 ⟨vs,H1,I1,r1,q1⟩=>?_) hs rfl))
 obtain ⟨n,e,q⟩:=q1
 subst e
 obtain ⟨u,rfl,t,rfl⟩:=zCz r1
 refine call_range_1 ⟨.ref s1.heap.objs.size,_,I1.laid (fun b o e=>Heap.get?_push_of_some _ e) (Nat.le_refl _) ?_,rfl,q _ I1.fresh⟩
 exact ⟨_,_,_,Heap.get?_push_size _ rfl⟩
structure RankCx (X:Cx) (P c:Addr):Prop where
 calm:X.calm=true
 dp:X.A.depth < recursionLimit
 n0:X.N[0]?=some ("some" : Str)
 n1:X.N[1]?=some ("bottom" : Str)
 k0:X.env.kindOf "some" = some .cell
 k1:X.env.kindOf "bottom" = some .cell
 code:X.env.code=.ref c
 hd:∀ h,X.K.In h->CodeHd h c P
 qual:X.env.qual ++ "<lambda>" = oT
 bm:BMn X.base X.mg
 clo:∃ cs cb,closureFor jE X.env=pure [(("some" : Str),cs),(("bottom" : Str),cb)]/\X.env.cells.lookup ("some" : Str)=some cs/\X.env.cells.lookup ("bottom" : Str)=some cb
 gS:Gl X "sorted"
 mS:X.mg "sorted" = none
 gR:Gl X "range"
 mR:X.mg "range" = none
 gL:Gl X "len"
 mL:X.mg "len" = none
def zJz (X:Cx) (P:Addr):TE:=fun σ H Q=>∃ Hi a xs rows b kz,σ[0]?=some (some (.ref a))/\σ[1]?=some (some (.int b))/\(SqL X.K Hi a xs∨SqT X.K Hi a xs)/\IsDs X.K Hi xs rows/\Same Hi H/\lY b rows=.ok kz/\kz.length < 64/\zA P H/\Hi P=none/\
 ∀ π r Hi' H',fK kz π->Ext Hi H Hi' H'->zFA X.K H Hi' H' r (hU π)->Q (.ref r) H'
theorem zBZ {pins:List (Addr×Obj)} {σ:St} {H:Hp} {s:Shared} {i:Nat} {x:Str} {v:V} {c:Addr} (I:Inv X pins σ H s) (hi:X.N[i]?=some x) (hv:σ[i]?=some (some v)) (hk:X.env.kindOf x=some .cell) (hc:X.env.cells.lookup x=some c):∃ u,cQ v u/\s.heap.IsCell c (some u):=by
 obtain ⟨m,hn,hl⟩:=I.loc
 obtain ⟨u,r,l⟩:=hl i x v hi hv (.inr (.inl hk))
 refine ⟨u,r,?_⟩
 rcases l with ⟨z,_⟩ | ⟨_,c',z,q⟩
 ·rw [hk] at z;cases z
 ·rw [hc] at z;cases z;exact q
theorem zIg {P c:Addr} (R:RankCx X P c) {pk pl pm pn:Pos} (hs1:starEach [.Name "some" p3] X.env=(false,eval (.Name "some" p3) X.env)::starEach [] X.env:=by rfl)
  (hs2:starEach [.Call (.Name "len" p2) [.Name "some" p3] [] p4] X.env=[(false,eval (.Call (.Name "len" p2) [.Name "some" p3] [] p4) X.env)]:=by rfl)
  (hs3:starEach [.Call (.Name "range" p1) [.Call (.Name "len" p2) [.Name "some" p3] [] p4] [] p5] X.env=(false,eval (.Call (.Name "range" p1) [.Call (.Name "len" p2) [.Name "some" p3] [] p4] [] p5) X.env)::starEach [] X.env:=by rfl):
  PE X (.Call (.Name "sorted" pk) [.Call (.Name "range" p1) [.Call (.Name "len" p2) [.Name "some" p3] [] p4] [] p5] [⟨some "key", .Lambda (zBh p6) (.BinOp (.Subscript (.Subscript (.Name "some" p7) (.Name "spot" p8) p9) (.Constant (.int 0) 0 pa) pb) .Mult
   (.BinOp (.Name "bottom" pc) .FloorDiv (.Subscript (.Subscript (.Name "some" pd) (.Name "spot" pe) pf) (.Constant (.int 1) 0 pg) ph) pi) pj) jE pl,pm⟩] pn) (zJz X P):=by
 intro pins s σ H Q I h
 obtain ⟨Hi,a,xs,rows,b,kz,e0,e1,hq,hds,sm,hkz,h64,tb,hiP,q⟩:=h
 obtain ⟨hl1,hl2⟩:=wU hkz
 have hlen:xs.length=kz.length:=by rw [hds.length,hl1]
 refine wpAny_Call_Name_kw (kF I R.gS R.mS boot_sorted ?_ (by decide) (by decide))
 have vS:PE X (.Name "some" p3) (zCK 0):=qW R.n0 (.inr (.inl R.k0))
 have pR:=zJL (p:=p1) (pos:=p5) R.gR R.mR (iX (wO (p:=p2) (pos:=p4) aR R.gL R.mL boot_len (iX vS oM hs1) (by decide) (by decide) hs1) oM (by rw [hs2];rfl)) hs2
 refine callWith_kw (thn ((iX pR oM hs3) pn pins s σ H (fun vs H1=>∃ r,vs=[.ref r]/\H r=none/\H1=upd H r (.rng 0 kz.length)) I ?reads) fun us s1 ⟨vs,H1,I1,r1,q1⟩=>?_) (by rw [hs3];rfl) (by rw [hs3];rfl)
 case reads=>
  refine ⟨.ref a,e0,a,xs,rfl,hq.imp (cK sm) (cD sm),xs.length,rfl,fun r hr=>⟨r,rfl,hr,by rw [hlen]⟩⟩
 obtain ⟨r,rfl,hr,rfl⟩:=q1
 obtain ⟨u,rfl,ru⟩:=zCz r1
 cases ru
 obtain ⟨cs,cb,hcl,hcs,hcb⟩:=R.clo
 have x1:Ext Hi H Hi (upd H r (.rng 0 kz.length)):=Ext.newF sm hr
 refine kws_cons (zFE I1 (x1.h.t P tb) R.hd R.code R.qual R.bm hcl rfl fun f c' ctv oc vs t u H3 s3 I3 hkeep hsame hf hfs hfo hc1 hc2 hc3=>kws_nil ?_)
 have x2:Ext Hi H Hi H3:=x1.trans ⟨Same.refl _,hkeep,fun b o e=>hsame b o (x1.s _ _ e) (fun z=>by rw [z,hiP] at e;cases e),fun b e z=>absurd e z⟩
 have hr3:H3 r=some (.rng 0 kz.length):=hkeep.at aW
 obtain ⟨t1,t2,t3,hrg⟩:=I3.hok r _ hr3
 have I3p:Inv X (pins++[(f,kla_obj "<lambda>" oT (zBh p6) _ jE [("some", cs),("bottom", cb)] ((X.mg "__name__").getD .none) c' ctv)]) σ H3 s3:=I3.pins_of fun p hp=>by
  rcases List.mem_append.mp hp with hp | hp
  ·exact I3.pin p (List.mem_append_right _ hp)
  ·rw [List.mem_singleton.mp hp]
   exact ⟨hfo,hf.1,hf.2.1,hf.2.2.1,fun v z=>by have z':Data.func _=Data.cell v:=z;cases z'⟩
 refine zDT (kz:=kz) R.calm I3p hrg h64 rfl (fun j tk k hj s' pl Ip=>?_) fun D s' out c2 π I' fD hDs hD hπ hV=>?_
 ·obtain ⟨d,hd,hk⟩:=hl2 j k hj
  have hfo':=(Ip.pin _ (List.mem_append_right _ (List.mem_append_left _ (List.mem_append_right _ (List.mem_singleton.mpr rfl))))).1
  obtain ⟨u0,r0,ce0⟩:=zBZ Ip R.n0 e0 R.k0 hcs
  obtain ⟨u1,r1,ce1⟩:=zBZ Ip R.n1 e1 R.k1 hcb
  have look:∀ {x:Str} {c:Addr},List.lookup x [(("some" : Str),cs),(("bottom" : Str),cb)]=some c->(x = "some" /\ c=cs)∨(x = "bottom" /\ c=cb):=fun {x c} z=>by
   have z':=PySem.mem_of_lookup z
   rcases List.mem_cons.mp z' with z' | z'
   ·cases z';exact .inl ⟨rfl,rfl⟩
   ·cases List.mem_singleton.mp z';exact .inr ⟨rfl,rfl⟩
  have hne:cs≠cb:=fun z=>by
   have:=Ip.ok.inj _ _ _ hcs (z ▸ hcb)
   exact absurd this (by decide)
  have lam:∃ t,PE (cxL X.prog X.w X.K X.mg X.base ["spot", "some", "bottom"] oT jE f (.ref c') [("some", cs),("bottom", cb)] X.A.in1.in1 X.stack s' H3) _ t/\t [some (.int j),some (.ref a),some (.int b)] H3 (fun v H'=>v=.int k/\H'=H3):=
   zFt (p1:=p7) (p2:=p8) (p3:=p9) (p4:=pa) (p5:=pb) (p6:=pc) (p7:=pd) (p8:=pe) (p9:=pf) (pa:=pg) (pb:=ph) (pc:=pi) (pz:=pj) rfl rfl rfl hq hds x2.s hd hk ⟨rfl,rfl⟩
  obtain ⟨tt,hb,hqq⟩:=lam
  refine wpAny_call (codeAny_mono (zHy (E:=fun _ _ _=>False) (p := "spot") (Ip.ok.hd R.calm) R.dp Ip.env0.in1.in1 hfo' ⟨c',oc,vs,t,rfl,(Ip.hok c' _ hc1).1,hc2,hc3⟩ rfl (by decide +kernel) rfl rfl rfl (by decide +kernel) (fun x hx=>?_) (fun x y c z1 z2=>?_) (fun x c z=>?_) rfl (fun i x v z1 z2=>?_) hb hqq) fun res s'' hres=>?_)
  ·have hx':=PySem.mem_of_lookup hx
   rcases List.mem_cons.mp hx' with z | hx'
   ·cases z
   ·rcases List.mem_cons.mp hx' with z | hx'
    ·cases z;exact ⟨cb,rfl⟩
    ·cases List.mem_singleton.mp hx';exact ⟨cs,rfl⟩
  ·rcases look z1 with ⟨rfl,rfl⟩ | ⟨rfl,rfl⟩<;>rcases look z2 with ⟨rfl,w⟩ | ⟨rfl,w⟩
   ·rfl
   ·exact absurd w hne
   ·exact absurd w.symm hne
   ·rfl
  ·rcases look z with ⟨rfl,rfl⟩ | ⟨rfl,rfl⟩
   ·exact ⟨⟨_,ce0⟩,Ip.freeC _ _ hcs⟩
   ·exact ⟨⟨_,ce1⟩,Ip.freeC _ _ hcb⟩
  ·match i,z1,z2 with
   | 0,z1,z2=>cases z1;cases z2;exact .inl ⟨rfl,tk,rfl⟩
   | 1,z1,z2=>cases z1;cases z2;exact .inr ⟨by decide +kernel,cs,u0,rfl,ce0,r0⟩
   | 2,z1,z2=>cases z1;cases z2;exact .inr ⟨by decide +kernel,cb,u1,rfl,ce1,r1⟩
   | i+3,z1,z2=>simp at z2
  ·cases res with
   | error ev=>exact False.elim hres
   | ok fl=>
    cases fl with
    | ret u=>
     obtain ⟨v,H',J,rv,rfl,rfl⟩:=Ip.after hres
     obtain ⟨t',rfl⟩:=rv
     exact ⟨⟨t',rfl⟩,J⟩
    | next=>exact False.elim hres
    | brk=>exact False.elim hres
    | cont=>exact False.elim hres
 ·have I'':Inv X pins σ H3 s':=I'.unpinned
  obtain ⟨f0,f1,f2,f3,f4,f5⟩:=fD
  have h0:X.s₀.heap.get? D=none:=Heap.get?_none_of_le (Nat.le_trans I3.sz hDs)
  have hl:=hV.length
  have okL:iP X.prog X.w (upd H3 D (.lst (π.map fun i:Nat=>V.int (i:Int)))) s'.heap D (.lst (π.map fun i:Nat=>V.int (i:Int))):=by
   refine ⟨?_,out.toList,c2,hV,by rw [Array.toArray_toList];exact hD⟩
   rw [List.length_map,hπ.1.length_eq,List.length_range,sizeLine_eq];omega
  have I4:=I''.track f0 h0 f1 f4 (fun p hp=>f5 p (by
   rcases List.mem_append.mp hp with hp | hp
   ·exact List.mem_append_left _ hp
   ·exact List.mem_append_right _ (List.mem_append_left _ hp))) okL
  refine ⟨.ref D,_,I4,rfl,q π D Hi _ hπ (x2.trans (Ext.newF x2.s f0)) ⟨x2.h.none f0,x2.s.none f0,_,aW,yQ π⟩⟩
end
end L3
namespace L3
open PySem PySem.Spec PyProof.Rows L2 PySem.W
unseal PEd PEf PTd PWd PAd PSd eV POd PGd gW PId PSx kY PTs PCd PCf
def spR (K:PySem.W.Frag) (mg:Str->Option Value) (kf:List D->Res (List Int)):Sp:=fun vs H Q _=>vs.length=1/\∃ Bi ds,TB K mg Bi H/\Same Bi H/\IsDs K Bi vs ds/\match kf ds with
 | .ok kz=>∀ π a Hi' H',fK kz π->Ext Bi H Hi' H'->zFA K H Hi' H' a (hU π)->Q (.ref a) H'
 | _=>False
structure CanR (P:Program) (w:World) (K:PySem.W.Frag) (mg:Str->Option Value) (base:Heap) (k:Nat) (kf:List D->Res (List Int)):Prop where
 ex:∃ f fd,FnOk P w K mg base (CX1 P w) k f fd ["some"] (spR K mg kf)/\xG K fd ["some"] []/\PySem.W.keepIn K (.ref f)=true/\mg "ranked" = some (.ref f)
theorem CanR.mono {P:Program} {w:World} {K:PySem.W.Frag} {mg:Str->Option Value} {base:Heap} {j k:Nat} {kf:List D->Res (List Int)} (c:CanR P w K mg base j kf) (h:j<=k):CanR P w K mg base k kf:=by
 obtain ⟨f,fd,F,r⟩:=c.ex
 exact ⟨⟨f,fd,F.mono h,r⟩⟩
structure RankDef (st:Stmt):Prop where
 k0:(aJ st).names.lookup ("some" : Str)=some .cell
 k1:(aJ st).names.lookup ("bottom" : Str)=some .cell
 gS:(aJ st).names.lookup ("sorted" : Str)=some .globalImplicit
 gR:(aJ st).names.lookup ("range" : Str)=some .globalImplicit
 gL:(aJ st).names.lookup ("len" : Str)=some .globalImplicit
 clo:∀ L f cdv,∃ cs cb,closureFor jE (envOfC "ranked" (aJ st) L f cdv)=pure [(("some" : Str),cs),(("bottom" : Str),cb)]/\(envOfC "ranked" (aJ st) L f cdv).cells.lookup ("some" : Str)=some cs/\(envOfC "ranked" (aJ st) L f cdv).cells.lookup ("bottom" : Str)=some cb
section
variable {P:Program} {w:World} {K:PySem.W.Frag} {mg:Str->Option Value} {base:Heap} {st s1 s2:Stmt} {f:Addr} {fd:FuncData} {k:Nat} {sa sb:Sv} {p1 p2 p3 p4 p5 p6 p7 p8 p9 pa pb pc pd pe pf pg ph pi pj pk pl pm pn po:Pos}
theorem zHt {T:Addr} (F:Fn K mg "ranked" st ["some"] f fd) (S:FnScope ["some", "bottom", "each"] ["some"] (aJ st)) (D:RankDef st) (hT:mZ K mg T) (hB:BMn base mg) (mS:mg "sorted" = none) (mR:mg "range" = none) (mL:mg "len" = none)
  (hbody:eM st=[s1,s2,.Return (some (.Call (.Name "sorted" pk) [.Call (.Name "range" p1) [.Call (.Name "len" p2) [.Name "some" p3] [] p4] [] p5] [⟨some "key", .Lambda (zBh p6) (.BinOp (.Subscript (.Subscript (.Name "some" p7) (.Name "spot" p8) p9) (.Constant (.int 0) 0 pa) pb) .Mult
   (.BinOp (.Name "bottom" pc) .FloorDiv (.Subscript (.Subscript (.Name "some" pd) (.Name "spot" pe) pf) (.Constant (.int 1) 0 pg) ph) pi) pj) jE pl,pm⟩] pn)) po])
  (h:∀ (cdv:Value) (A:Around) (outer:List Env) (s:Shared) (H:Hp) (E:XK) (G:Gx),Good (BX P w K mg base ["some", "bottom", "each"] "ranked" st f cdv A outer s H E) G k->zCW (BX P w K mg base ["some", "bottom", "each"] "ranked" st f cdv A outer s H E) G->
   PSd (BX P w K mg base ["some", "bottom", "each"] "ranked" st f cdv A outer s H E) G s1 sa/\PSd (BX P w K mg base ["some", "bottom", "each"] "ranked" st f cdv A outer s H E) G s2 sb):
  CanR P w K mg base (k+1) (vY sa sb):=by
 refine ⟨f,fd,?_,F.bd,F.kp,F.mg⟩
 obtain ⟨f',oc',od',fd',osl',c,t1,t2,t3,t4⟩:=id hT
 have ef:f'=f:=by have:=t1.symm.trans F.mg;exact Value.ref.inj (Option.some.inj this)
 subst ef
 obtain ⟨oc,od,kV,doc,pm',an,cdv,ct,osl,rfl,lk,hcd⟩:=F.fn.ex
 have efd:cdv=.ref c:=by
  rw [lk] at t2
  cases t2
  exact t3
 subst efd
 refine zJC lk hcd S (fun vs H Q E h=>h.1) fun A outer s H vs Q E hr hsp=>?_
 obtain ⟨hl,Bi,ds,tb,sm,hd,hq⟩:=hsp
 have hg:=zDX (P:=P) (w:=w) (K:=K) (mg:=mg) (base:=base) (N:=["some", "bottom", "each"]) (outer:=outer) (H:=H) (Bi:=Bi) (E:=E) hr tb
 obtain ⟨h1,h2⟩:=h (.ref c) A outer s H E _ hg zBN
 have RC:RankCx (BX P w K mg base ["some", "bottom", "each"] "ranked" st f' (.ref c) A outer s H E) T c:=
  ⟨rfl,hr.depth,rfl,rfl,D.k0,D.k1,rfl,t4,by show (("ranked" : Str) ++ ".<locals>.") ++ "<lambda>" = oT;decide +kernel,hB,D.clo _ _ _,D.gS,mS,D.gR,mR,D.gL,mL⟩
 have body:∀ G,PSs (BX P w K mg base ["some", "bottom", "each"] "ranked" st f' (.ref c) A outer s H E) [s1] (tS (BX P w K mg base ["some", "bottom", "each"] "ranked" st f' (.ref c) A outer s H E) G sa)->PS (BX P w K mg base ["some", "bottom", "each"] "ranked" st f' (.ref c) A outer s H E) s1 (tS (BX P w K mg base ["some", "bottom", "each"] "ranked" st f' (.ref c) A outer s H E) G sa)->PS (BX P w K mg base ["some", "bottom", "each"] "ranked" st f' (.ref c) A outer s H E) s2 (tS (BX P w K mg base ["some", "bottom", "each"] "ranked" st f' (.ref c) A outer s H E) G sb)->
   PSs (BX P w K mg base ["some", "bottom", "each"] "ranked" st f' (.ref c) A outer s H E) (eM st) (zLW (tS (BX P w K mg base ["some", "bottom", "each"] "ranked" st f' (.ref c) A outer s H E) G sa) (zLW (tS (BX P w K mg base ["some", "bottom", "each"] "ranked" st f' (.ref c) A outer s H E) G sb) (zMV (zJz (BX P w K mg base ["some", "bottom", "each"] "ranked" st f' (.ref c) A outer s H E) T)))):=fun G _ h1 h2=>by
  rw [hbody]
  exact pH h1 (pH h2 (vB (zBG (zIg RC))))
 refine ⟨_,body _ (vB h1) h1 h2,?_⟩
 cases ek:vY sa sb ds with
 | no=>rw [ek] at hq;exact hq.elim
 | err c=>rw [ek] at hq;exact hq.elim
 | ok kz=>
  rw [ek] at hq
  unfold vY at ek
  split at ek
  case isFalse=>cases ek
  split at ek
  case h_2=>cases ek
  rename_i ρ1 e1
  split at ek
  case h_2=>cases ek
  rename_i ρ2 e2
  refine ⟨L3.start 3 ds,Bi,zX (N:=["some", "bottom", "each"]) sm hd,?_⟩
  rw [e1]
  intro σ1 Hi1 H1 sm1 R1
  refine ⟨ρ1,Hi1,R1,?_⟩
  rw [e2]
  intro σ2 Hi2 H2 sm2 R2
  unfold zBI at ek
  split at ek
  case h_2=>cases ek
  rename_i rows b z0 z1
  split at ek
  case isFalse=>cases ek
  rename_i h64
  obtain ⟨v,q0,r0⟩:=R2.slot 0 _ z0
  obtain ⟨v1,q1,r1⟩:=R2.slot 1 _ z1
  obtain ⟨a,xs,rfl,g1,g2⟩:=r0.lstI
  have r1':=r1.intI
  subst r1'
  obtain ⟨tb2,n2⟩:=hg.tb.ext R2.ext T hT
  exact ⟨Hi2,a,xs,rows,b,kz,q0,q1,.inl g1,g2,R2.s,ek,by rw [(wU ek).1];exact h64,tb2,n2,fun π r Hi' H' hπ x nl=>hq π r Hi' H' hπ (R2.ext.trans x) ⟨R2.ext.h.none nl.1,nl.2⟩⟩
end
section
variable {X:Cx} {G:Gx} {e:Expr} {es:List Expr} {pos p:Pos} {fs:Fv} {k:Nat} {kf:List D->Res (List Int)} {tg:Expr} {body rest:List Stmt} {g:Gv} {sa sb:Sv}
def tIr (X:Cx) (G:Gx) (fs:Fv) (kf:List D->Res (List Int)):TI:=fun σ H R=>∃ ρ Hi,jF X G Hi H σ ρ/\Out G Hi H ((fs ρ).bind kf) fun kz Hi' H'=>∀ π J,fK kz π->tU X.K Hi' J (hU π)->R J H'
theorem zIE (W:Good X G k) (c:CanR X.prog X.w X.K X.mg X.base k kf) (hkf:∀ ds c,kf ds≠.err c) (hk1:∀ ds,kf ds≠.no->ds.length=1) (hg:Gl X "ranked") (ha:PAd X G [e] fs) (he:starEach [e] X.env=(false,eval e X.env)::starEach [] X.env:=by rfl):
  PI X tg (.Call (.Name "ranked" p) [e] [] pos) (tIr X G fs kf):=by
 obtain ⟨f,fd,F,b,kp,hm⟩:=c.ex
 refine PI.wk (zHN (zAj F W.room hg hm kp b .nil W.pass ha (by decide) he rfl)) fun σ H R q=>?_
 obtain ⟨ρ,Hi,Rl,ou⟩:=q
 refine zFo Rl ou fun vs ds Hi1 H1 e1 R1 r1 o1=>?_
 rw [List.append_nil]
 have hno:kf ds≠.no:=fun z=>by rw [z] at o1;exact o1
 refine ⟨by rw [r1.length];exact hk1 ds hno,Hi1,ds,W.tb.ext R1.ext,R1.s,r1,?_⟩
 cases z:kf ds with
 | no=>exact absurd z hno
 | err c=>exact absurd z (hkf ds c)
 | ok kz=>
  rw [z] at o1
  intro π a Hi2 H2 hπ e2 n
  obtain ⟨n1,n2,xs,n3,n4⟩:=n
  have x3:=e2.hold n1 n3 n2
  refine ⟨a,rfl,⟨xs,SqL.of n3⟩,o1 _ _ x3 π _ hπ (xT (SqL.of aW) (n4.mono (cU n2 _)))⟩
theorem zDh (W:Good X G k) (c:CanR X.prog X.w X.K X.mg X.base k kf) (hkf:∀ ds c,kf ds≠.err c) (hk1:∀ ds,kf ds≠.no->ds.length=1) (hg:Gl X "ranked") (ha:PAd X G [e] fs) (hgt:PGd X G tg g) (hge:∀ d ρ c,g d ρ≠.err c) (hb:eV X G body sa) (hr:eV X G rest sb)
  (he:starEach [e] X.env=(false,eval e X.env)::starEach [] X.env:=by rfl) {pf:Pos} (hs:∀ x,foldedSetIterable (.Call (.Name "ranked" p) [e] [] pos) X.env x=pure x:=by intro _;rfl):
  eV X G (.For tg (.Call (.Name "ranked" p) [e] [] pos) body [] pf::rest) (zDv fs kf g sa sb):=by
 refine PSs.wk (pH (zEH W.own W.calm (zIE W c hkf hk1 hg ha he) hgt hb hs) hr) fun E σ H q=>?_
 obtain ⟨ρ,Hi,R,h⟩:=q
 refine ⟨ρ,Hi,R,lS R h fun kz Hi1 H1 _ e1 h1 π J hπ gv=>?_⟩
 have hn:lT kz (fun π=>bF (fun ρ=>fP g sa (hU π) ρ) sb ρ)≠.no:=fun z=>by rw [z] at h1;exact h1
 rw [<-zCQ hn hπ] at h1
 exact zHc hge (R.grow e1) (zJK (sa:=fun ρ=>fP g sa (hU π) ρ) h1) gv
end
end L3
namespace L3
open PySem PySem.Spec PyProof.Rows L2 PySem.W
unseal PEd PEf PTd PWd PAd PSd eV POd PGd gW PId PSx kY PTs PCd PCf
def zKd (K:PySem.W.Frag) (mg:Str->Option Value):Sp:=fun vs H Q _=>∃ (a:Addr) (ns:List Int) (Bi:Hp),vs=[.ref a]/\TB K mg Bi H/\Same Bi H/\SqL K Bi a (ns.map V.int)/\ns.length<=63/\(∃ m,m<=1048576/\∀ n∈ns,n.natAbs < 2^m)/\∀ H',Q (.bl true) H'
theorem zIb {P:Program} {w:World} {K:PySem.W.Frag} {mg:Str->Option Value} {base:Heap} {k:Nat} {m:Mir} {f:Addr} {fd:FuncData} (F:FnOk P w K mg base (CX1 P w) k f fd ["script"] (spM K mg 1 m))
  (h:∀ ns:List Int,ns.length<=63->(∃ m,m<=1048576/\∀ n∈ns,n.natAbs < 2^m)->m [.lst (ns.map D.int)]=.ok (.v (.bl true))):FnOk P w K mg base (CX1 P w) k f fd ["script"] (zKd K mg):=by
 refine F.imp fun vs H Q E q=>?_
 obtain ⟨a,ns,Bi,rfl,tb,sm,hS,hl,hbg,q⟩:=q
 refine ⟨rfl,Bi,[.lst (ns.map D.int)],tb,sm,.cons (.lst hS (zG ns)) .nil,?_⟩
 rw [h ns hl hbg]
 intro v Hi' H' e r
 rw [r.blI]
 exact q H'
theorem zIS {P:Program} {w:World} {K:PySem.W.Frag} {mg:Str->Option Value} {base:Heap} {k:Nat} {m:Mir} {f:Addr} {fd:FuncData} (F:FnOk P w K mg base (CX1 P w) k f fd ["script"] (spM K mg 1 m))
  (h:∀ ns:List Int,ns.length<=63->m [.lst (ns.map D.int)]=.ok (.v (.bl true))):FnOk P w K mg base (CX1 P w) k f fd ["script"] (zKd K mg):=zIb F fun ns hl _=>h ns hl
theorem zFY {K:PySem.W.Frag} {mg:Str->Option Value} {h:Heap} {T T':Addr} (X:K.In h) (a:mZ K mg T) (b:mZ K mg T'):T'=T:=by
 obtain ⟨f,oc,od,fd,osl,c,a1,a2,a3,a4⟩:=a
 obtain ⟨f',oc',od',fd',osl',c',b1,b2,b3,b4⟩:=b
 rw [a1] at b1;cases b1
 rw [a2] at b2;cases b2
 rw [a3] at b3;cases b3
 obtain ⟨o,vs,_,_,_,_,_,_,_,e1,_,e3,e4,_⟩:=a4 h X
 obtain ⟨o',vs',_,_,_,_,_,_,_,f1,_,f3,f4,_⟩:=b4 h X
 rw [e1] at f1;cases f1
 rw [e3] at f3;cases f3
 rw [e4] at f4;cases f4
 rfl
theorem zEa {P:Program} {w:World} {K:PySem.W.Frag} {mg mb:Str->Option Value} {CX:CXT} {k:Nat} {fa a T:Addr} {fd:FuncData} {x:Str} {s₁:Shared} {vs:List Value} {ns:List Int}
  (KX:K.In s₁.heap) (hns:s₁.heap.Ns mainGlobals mg) (hb:s₁.heap.Ns builtinsNs mb) (hbb:∀ x:Str,x ≠ "__name__" -> mb x=bootBuiltins x) (hlim:s₁.heap.NoLimit) (hg:s₁.gens=#[]) (hbm:BMn s₁.heap mg) (hT:s₁.heap.get? T=some (tabObj #[])) (hKT:K.lookup T=none) (hP:mZ K mg T)
  (ha:s₁.heap.get? a=some { cls:=.type "list", data:=.seq vs.toArray }) (hi:IntsAre vs ns) (hl:ns.length<=63) (hbg:∃ m,m<=1048576/\∀ n∈ns,n.natAbs < 2^m) (hr:Room k callerA)
  (F:∀ base:Heap,K.In base->base.Ns mainGlobals mg->BMn base mg->FnOk P w K mg base CX k fa fd [x] (zKd K mg)) (hbind:∀ (s:Shared) (u:Value),BindsTo s fd ⟨[u],[]⟩ [(x,u)])
  (hCX:∀ H e s',CX [] H s₁ (fun _ _ _=>False) e s'->False):
  codeAny (model P w) callerA (.call (.ref fa) ⟨[.ref a],[]⟩) (fun r s'=>r=.ok (.ret (.bool true))/\OldK s₁.heap s'.heap/\s'.os=s₁.os/\AllBare s'.gens) s₁:=by
 have rv:=xS hi
 have lenV:=hi.length
 have haT:a≠T:=fun z=>by rw [z,hT] at ha;cases ha
 have core:∀ Bi:Hp,zNx Bi->SqL K Bi a (ns.map V.int)->HOk P w Bi s₁.heap->(∀ b,Bi b≠none->b=a)->(Bi a≠none->K.lookup a=none)->
   codeAny (model P w) callerA (.call (.ref fa) ⟨[.ref a],[]⟩) (fun r s'=>r=.ok (.ret (.bool true))/\OldK s₁.heap s'.heap/\s'.os=s₁.os/\AllBare s'.gens) s₁:=by
  intro Bi hO hS hokB hA hK
  have hBT:Bi T=none:=by
   cases q:Bi T with
   | none=>rfl
   | some u=>exact absurd (hA T (by rw [q];simp)).symm haT
  generalize hHdef:upd Bi T (.tbl #[])=H
  have HT:H T=some (.tbl #[]):=by rw [<-hHdef,aW]
  have Hne:∀ {b},b≠T->H b=Bi b:=fun z=>by rw [<-hHdef,bA z]
  have sm:Same Bi H:=fun b o e=>by rw [Hne (aY e hBT)];exact e
  have hok:HOk P w H s₁.heap:=fun b u e=>by
   by_cases hb:b=T
   ·subst hb;rw [HT] at e;cases e;exact hT
   ·rw [Hne hb] at e
    exact (hokB b u e).stay (fun c v _ q=>q) (fun c q=>sm _ _ q) fun c xs q=>sm _ _ q
  have only:∀ {b:Addr} {o:Obj},s₁.heap.get? b=some o->(∀ xs n,o.data≠.seq xs n)->(∀ vs,o.data≠.fields vs)->H b=none:=fun {b o} e d1 d2=>by
   by_cases hb:b=T
   ·subst hb;rw [hT] at e;cases e;exact absurd rfl (d2 #[])
   ·rw [Hne hb]
    cases q:Bi b with
    | none=>rfl
    | some u=>
     have e':b=a:=hA b (by rw [q];simp)
     subst e'
     rw [ha] at e;cases e
     exact absurd rfl (d1 _ _)
  have base_of:∀ {b:Addr} {o:Obj},s₁.heap.get? b=some o->H b=none->(zFn s₁.heap H).get? b=some o:=fun e n=>zFG e n
  have nsK:∀ {b:Addr} {m:Str->Option Value},s₁.heap.Ns b m->(zFn s₁.heap H).Ns b m:=fun {b m} ⟨o,es,ep,e,d,r⟩=>⟨o,es,ep,base_of e (only e (fun xs n z=>by rw [d] at z;cases z) (fun vs z=>by rw [d] at z;cases z)),d,r⟩
  have hKb:K.In (zFn s₁.heap H):=fun b o e=>base_of (KX b o e) (by
   by_cases hb:b=T
   ·subst hb;rw [hKT] at e;cases e
   ·rw [Hne hb]
    cases q:Bi b with
    | none=>rfl
    | some u=>
     have e':b=a:=hA b (by rw [q];simp)
     subst e'
     rw [hK (by rw [q];simp)] at e;cases e)
  have hBb:BMn (zFn s₁.heap H) mg:=by
   obtain ⟨bm,ob,b1,b2,b3,b4,b5,b6⟩:=hbm
   exact ⟨bm,ob,b1,b2,base_of b3 (only b3 (fun xs n z=>by rw [b6] at z;cases z) (fun vs z=>by rw [b6] at z;cases z)),b4,b5,b6⟩
  have hM:Mod K mg (zFn s₁.heap H):=⟨hKb,nsK hns,⟨mb,nsK hb,hbb⟩,let ⟨mc,h1,h2⟩:=hlim;⟨mc,nsK h1,h2⟩⟩
  have e0:Env0 P w K mg (zFn s₁.heap H) callerA [] s₁ H:=⟨rfl,hM,fun b o e=>zIy e,Nat.le_of_eq (zEK _ _),trivial,fun b hb=>absurd (show b∈([]:List Addr) from hb) (by simp),hok,.of_eq hg⟩
  have htb:TB K mg Bi H:=fun T' h'=>by
   have e':=zFY KX hP h'
   subst e'
   exact ⟨⟨#[],HT,trivial,fun pos cv z=>by cases z⟩,hBT⟩
  refine codeAny_mono ((F _ hKb (nsK hns) hBb).run callerA [] s₁ H ⟨[.ref a],[]⟩ [.ref a] [.ref a] (fun v _=>v=.bl true) (fun _ _ _=>False) hr e0 (hbind s₁ (.ref a)) (.cons rfl .nil) ⟨a,ns,Bi,rfl,htb,sm,hS,hl,hbg,fun _=>rfl⟩) fun r s' h=>?_
  cases r with
  | error e=>exact (hCX H e s' h).elim
  | ok fl=>
   cases fl with
   | next=>exact False.elim h
   | brk=>exact False.elim h
   | cont=>exact False.elim h
   | ret u=>
    obtain ⟨v,H',os,bare,un,hok',r',q⟩:=h
    have q':v=.bl true:=q
    subst q'
    obtain rfl:u=Value.bool true:=r'
    refine ⟨rfl,⟨fun b o e=>?_,fun b o e=>un.there b o e (by simp)⟩,os,bare⟩
    by_cases hbT:b=T
    ·subst hbT
     obtain ⟨more,z⟩:=un.tbls b _ HT
     have z2:s'.heap.get? b=some { cls:=.none,data:=.fields (#[]++more) }:=hok' b _ z
     rw [hT] at e;cases e
     obtain ⟨f,oc,od,fd',osl,c,a1,a2,a3,a4⟩:=hP
     obtain ⟨o,vs,_,_,_,_,_,_,_,e1,e2,e3,e4,_⟩:=a4 _ KX
     exact .inr (.inl ⟨⟨c,o,vs,e1,e2,e3,e4⟩,rfl,#[],more,rfl,z2⟩)
    ·refine .inl ?_
     cases q:H b with
     | none=>exact un.keep b o e q (by intro z;exact absurd (show b∈([]:List Addr) from z) (by simp)) (by simp)
     | some u=>
      rw [Hne hbT] at q
      rcases hO b with z | ⟨ob,xs,z⟩
      ·rw [q] at z;cases z
      ·have z2:=un.frzs b ob _ (by rw [Hne hbT];exact z)
       obtain ⟨e1,_⟩:=hokB b _ z
       obtain ⟨e2,_⟩:=hok' b _ z2
       rw [e] at e1;cases e1
       exact e2
 cases hk:K.lookup a with
 | some o=>
  have e:=KX a o hk
  rw [ha] at e
  cases e
  refine core (fun _=>none) (fun _=>.inl rfl) (.inr ⟨_,vs.toArray,_,hk,rfl,rfl,rfl,by rw [List.size_toArray,lenV,sizeLine_eq];omega,by simpa using rv⟩) (fun b u z=>by have z':(none:Option HO)=some u:=z;cases z') (fun b z=>absurd rfl z) fun z=>absurd rfl z
 | none=>
  refine core (fun b=>if b=a then some (.frz { cls:=.type "list", data:=.seq vs.toArray } (.lst (ns.map V.int))) else none) (fun b=>?_) (.inl (.inr ⟨{ cls:=.type "list", data:=.seq vs.toArray },if_pos rfl⟩)) (fun b u z=>?_) (fun b z=>?_) fun _=>hk
  ·by_cases hb:b=a
   ·exact .inr ⟨_,_,if_pos hb⟩
   ·exact .inl (if_neg hb)
  ·by_cases hb:b=a
   ·have z':=(if_pos hb).symm.trans z
    cases z'
    subst hb
    exact ⟨ha,by rw [List.length_map,sizeLine_eq];omega,vs,_,rv,ha⟩
   ·have z':=(if_neg hb).symm.trans z
    cases z'
  ·by_cases hb:b=a
   ·exact hb
   ·exact absurd (if_neg hb) z
theorem zGB:∀ {ns:List Int} {n:Int},n∈ns->(WData.int n).weight<=WData.weightAll (ns.map WData.int)
 | a::r,n,h=>by
  rw [List.map_cons,WData.weightAll]
  rcases List.mem_cons.mp h with rfl | h
  ·omega
  ·have:=zGB h
   omega
theorem zIp {ns:List Int} (h:WData.layableAll [WData.list (ns.map WData.int)]=true):(∃ m,m<=1048576/\∀ n∈ns,n.natAbs < 2^m):=by
 refine ⟨1048576,Nat.le_refl _,fun n hn=>?_⟩
 have w:WData.weightAll (ns.map WData.int)<=2^20:=by
  unfold WData.layableAll WData.layable at h
  simp only [List.all_cons,List.all_nil,Bool.and_true,Bool.and_eq_true,decide_eq_true_eq] at h
  have:=h.2
  rw [WData.weight] at this
  exact this
 have a:=zGB hn
 rw [WData.weight] at a
 by_cases z:n=0
 ·subst z
  exact Nat.two_pow_pos _
 ·rw [if_neg (by simpa using z)] at a
  exact Nat.lt_of_lt_of_le Nat.lt_log2_self (Nat.pow_le_pow_right (by decide) (by omega))
open PySem.Calls in
theorem yR {l:OpenLaw} {n:Nat} {q:Program} {loose:List Str} {XP:(Str->Option Value)->Heap->Prop} {YP:World->Heap->Prop} {d:DefRec}
  (hn:l.most=some n) (hdf:d.params.defaults=[])
  (call:∀ (w:World) (s₀ s₁:Shared) (mg mb:Str->Option Value) (fa:Addr) (o:Obj) (pm cd doc:Value) (a:Addr) (vs:List Value) (ns:List Int),(∃ m,m<=1048576/\∀ n∈ns,n.natAbs < 2^m)->
   Ground q loose [] XP w s₀ mg mb s₁.heap->YP w s₁.heap->
   s₁.heap.get? fa=some o->o.data=.func (docDef d.name d.params d.body d.scope pm cd doc)->s₁.heap.CodeRec cd d.name->mg d.name=some (.ref fa)->
   s₁.heap.get? a=some { cls:=.type "list", data:=.seq vs.toArray }->IntsAre vs ns->ns.length<=n->s₁.gens=#[]->
   codeAny (model l.prog w) callerA (.call (.ref fa) ⟨[.ref a],[]⟩) (fun r s'=>r=.ok (.ret (.bool true))/\OldK s₁.heap s'.heap/\s'.os=s₁.os/\AllBare s'.gens) s₁):
  WalkO q loose XP YP l.row.toRowW d [] (fun f vs=>PySem.call f vs):=by
 intro w s₀ s₁ mg mb G Y fa o pm cd doc dV kV ho hd hcd hD hmg hg args vals as hpre hlay hrd hwl hlo
 obtain rfl:dV=.none:=Dflts.none hD hdf
 obtain rfl:kV=.none:=Dflts.noKw hD
 obtain ⟨a,vs,ns,rfl,rfl,hobj,hints,hlen⟩:=Att.script_of hn hpre hwl
 refine enter_call (codeAny_mono (call w s₀ s₁ mg mb fa o pm cd doc a vs ns (zIp hlay) G Y ho (fd_plain hd) hcd hmg hobj hints hlen hg) fun r s' hq=>?_)
 obtain ⟨rfl,h2,h3,h4⟩:=hq
 exact ⟨.inl ⟨.bool true,.bool true,[],rfl,fun _=>rfl,.bool true,Att.post_true l _,fun _=>⟨List.Pairwise.nil,fun _ hm=>(nomatch hm)⟩⟩,h2,h3,h4⟩
theorem zMv {l:PySem.W.OpenLaw} {k:Nat} {q:Program} {loose:List Str} {XP:(Str->Option Value)->Heap->Prop} {YP:World->Heap->Prop} {d:DefRec} {K:Params->PySem.W.Frag} {T:Addr} (hn:l.most=some 63) (hdf:d.params.defaults=[]) (hr:Room k callerA)
  (hY:∀ (w:World) (h:Heap),YP w h->(K w.params).In h) (hT:∀ (w:World) (h:Heap),YP w h->h.get? T=some (tabObj #[]))
  (F:∀ (w:World) (mg:Str->Option Value) (fa:Addr) (h:Heap),(K w.params).In h->h.Ns mainGlobals mg->mg d.name=some (.ref fa)->
   (K w.params).lookup T=none/\mZ (K w.params) mg T/\∃ fd:FuncData,(∀ (s:Shared) (u:Value),BindsTo s fd ⟨[u],[]⟩ [("script", u)])/\∀ base:Heap,(K w.params).In base->base.Ns mainGlobals mg->BMn base mg->FnOk l.prog w (K w.params) mg base (CX1 l.prog w) k fa fd ["script"] (zKd (K w.params) mg)):
  PySem.W.WalkO q loose XP YP l.row.toRowW d [] (fun f vs=>PySem.call f vs):=by
 refine yR hn hdf fun w s₀ s₁ mg mb fa o pm cd doc a vs ns hbg G Y ho hd hcd hmg hobj hints hlen hg=>?_
 have KX:=hY w _ Y
 obtain ⟨h1,h2,fd,hb,hF⟩:=F w mg fa _ KX G.T.g hmg
 exact zEa KX G.T.g G.T.b G.T.builtins G.T.nolimit hg G.T.bmain (hT w _ Y) h1 h2 hobj hints hlen hbg hr hF hb fun _ _ _ z=>by
  obtain ⟨_,_,_,_,_,z⟩:=z
  exact z
end L3
namespace L3
open PySem PySem.Spec PyProof.Rows L2 PySem.W
unseal PEd PEf PTd PWd PAd PSd eV POd PGd gW PId PSx kY PTs PCd PCf
section
variable {X:Cx} {G:Gx} {pins:List (Addr×Obj)} {σ:St} {H Hi:Hp} {s:Shared} {ρ:Rho} {i k:Nat} {st:Stmt} {sa:Sv}
end
end L3
namespace L3
open PySem PySem.Spec PyProof.Rows L2 PySem.W
unseal PEd PEf PTd PWd PAd PSd eV POd PGd gW PId PSx kY PTs PCd PCf
section
variable {X:Cx} {G:Gx} {e a:Expr} {f g:Ev} {pos:Pos}
end
end L3
namespace L3
open PySem PySem.Spec PyProof.Rows L2 PySem.W
unseal PEd PEf PTd PWd PAd PSd eV POd PGd gW PId PSx kY PTs PCd PCf
section
variable {X:Cx} {G:Gx} {st:Stmt} {rest:List Stmt} {sa sb:Sv} {u:TS}
end
section
variable {P:Program} {w:World} {K:PySem.W.Frag} {mg:Str->Option Value} {base:Heap} {N ps:List Str} {x:Str} {st:Stmt} {f:Addr} {fd:FuncData} {k i0 i1 i2:Nat} {sv:Sv}
end
section
variable {X:Cx} {G:Gx} {e:Expr} {es:List Expr} {pos p:Pos} {fs:Fv} {k j0 j1 j2:Nat} {kf:List D->Res Tri} {x:Str} {ps:List Str} {tg:Expr}
end
end L3
namespace L3
open PySem PySem.Spec PyProof.Rows L2
unseal PEd PEf PTd PWd PAd PSd eV POd PGd gW PId PSx kY PTs PCd PCf
def Itq (K:PySem.W.Frag) (a:Addr) (n:Nat):It:=
 ⟨fun i H=>∃ xs x,SqL K H a xs/\xs.length=n/\xs.reverse[i]?=some x,fun i H x H'=>H'=H/\∀ xs,SqL K H a xs->xs.reverse[i]?=some x,fun i H=>∃ xs,SqL K H a xs/\n<=i⟩
def rix (n i:Nat):Int:=(n:Int) - 1 - ((min i n:Nat):Int)
theorem zCV {P:Program} {w:World} {K:PySem.W.Frag} {tg:Expr} (a it:Addr) (n:Nat):Turn P w K tg (Itq K a n) [it] it (fun i h=>h.IsRevIter it a (rix n i)) where
 mem:=by simp
 obj:=fun i h st b hb=>by
  have e:b=it:=by simpa using hb
  subst e
  obtain ⟨o,e,c,d⟩:=st
  exact ⟨o,e,fun v z=>by rw [d] at z;cases z⟩
 keep:=fun i h h' st k=>st.at fun o e=>k it (by simp) o e
 item:=by
  intro X hP hw hK hc i pins s σ H E I hf st hg
  subst hP hw hK
  obtain ⟨xs,x,hq,hn',hx⟩:=hg
  obtain ⟨its,rv,p,hz⟩:=I.list hq
  have hi:i < xs.length:=by
   have:=(List.getElem?_eq_some_iff.mp hx).1
   rwa [List.length_reverse] at this
  have hx':xs[n - 1 - i]?=some x:=by
   rw [List.getElem?_reverse hi,hn'] at hx
   exact hx
  obtain ⟨u,hu,ru⟩:=rv.get hx'
  obtain ⟨f0,f1,f2,f3,f4,f5⟩:=hf it (by simp)
  have st0:s.heap.IsRevIter it a ((n - 1 - i:Nat):Int):=by
   have e:rix n i=((n - 1 - i:Nat):Int):=by unfold rix;rw [Nat.min_eq_left (by omega)];omega
   rw [<-e];exact st
  refine wpAny_pyNext_rev_item (items:=its.toArray) st0 p.isList (x:=u) (by simpa using hu) fun h' st' sb=>?_
  have I1:Inv X pins σ H { s with heap:=h' }:=I.turned (t':=s.toks) (fun b o hb e=>(sb.2 b hb).trans e) f0 f1 f3 f4 f5
  obtain ⟨o,e,c,d⟩:=id st'
  have st2:h'.IsRevIter it a (rix n (i+1)):=by
   have e:rix n (i+1)=((n - 1 - i:Nat):Int) - 1:=by unfold rix;rw [Nat.min_eq_left (by omega)];omega
   rw [e];exact st'
  exact ⟨u,rfl,zFu (s:={ s with heap:=h' }) e c d (by decide) ⟨x,H,I1,ru,⟨rfl,fun ys hy=>by rw [I.list_inj hy hq];exact hx⟩,st2,fun b hb=>(hf b hb).1⟩⟩
 done:=by
  intro X hP hw hK hc i pins s σ H E I hf st hg
  subst hP hw hK
  obtain ⟨xs,hq,hx⟩:=hg
  obtain ⟨f0,f1,f2,f3,f4,f5⟩:=hf it (by simp)
  have st0:s.heap.IsRevIter it a (-1):=by
   have e:rix n i=-1:=by unfold rix;rw [Nat.min_eq_right hx];omega
   rw [<-e];exact st
  exact wpAny_pyNext_rev_end (I.ok.hd hc) st0 fun h' eb=>⟨rfl,I.turned (t':=s.toks) (fun b o hb e=>eb b o hb e) f0 f1 f3 f4 f5⟩
 self:=fun _ _ _ _ _ st h=>wpAny_pyIter_revIter st h
section
variable {X:Cx} {G:Gx} {fs:Fv} {f:Ev}
def iRw (K:PySem.W.Frag) (ta:TA):TI:=fun σ H R=>ta σ H fun vs H1=>∃ a xs,vs=[.ref a]/\SqL K H1 a xs/\R (Itq K a xs.length) H1
theorem zIi {tg a:Expr} {ta:TA} {p pos:Pos} (hg:Gl X "reversed") (hm:X.mg "reversed" = none) (ha:PA X [a] ta) (hs:starEach [a] X.env=[(false,eval a X.env)]:=by rfl):PI X tg (.Call (.Name "reversed" p) [a] [] pos) (iRw X.K ta):=by
 intro pins s σ H R I h
 refine Call_ (kF I hg hm zBF (PyProof.Rows.callWith_type1 (thn (ha pos pins s σ H _ I h) fun us s1 ⟨vs,H1,I1,r1,q1⟩=>?_) hs rfl))
 obtain ⟨t,xs,rfl,hq,q⟩:=q1
 cases r1 with
 | cons r rr=>
  cases rr
  cases r
  obtain ⟨its,rv,pt,hz⟩:=I1.list hq
  have hl:=rv.length
  refine call_reversed_list (items:=its.toArray) pt.isList ?_
  have hR:(s1.heap.push (revObj t ((its.toArray.size:Int) - 1))).IsRevIter s1.heap.objs.size t (rix xs.length 0):=
   ⟨_,Heap.get?_push_size _ rfl,rfl,by unfold rix;rw [hl,List.size_toArray];simp [revObj]⟩
  refine wpAny_pyIter_revIter (s:={ s1 with heap:=_ }) hR ?_
  refine ⟨s1.heap.objs.size,[s1.heap.objs.size],_,_,H1,rfl,I1.kept (t':=s1.toks) fun b o e=>Heap.get?_push_of_some _ e,zCV t _ xs.length,hR,fun b hb=>?_,q⟩
  have e:b=s1.heap.objs.size:=by simpa using hb
  subst e
  exact I1.fpOk (Nat.le_refl _) (I1.hok.fresh (Nat.le_refl _))
theorem zCO {K:PySem.W.Frag} {Hi:Hp} {a:Addr} {xs:List V} {ds:List D} (h1:SqL K Hi a xs) (h2:IsDs K Hi xs ds):tU K Hi (Itq K a xs.length) ds.reverse:=fun Hi1 H1 s1 s2 i=>by
 have h3:=cK (s1.trans s2) h1
 have hl:=h2.length
 refine ⟨fun hl'=>⟨xs,h3,by rw [List.length_reverse] at hl';omega⟩,fun d hd=>?_⟩
 have hi:i < ds.length:=by
  have:=(List.getElem?_eq_some_iff.mp hd).1
  rwa [List.length_reverse] at this
 rw [List.getElem?_reverse hi] at hd
 obtain ⟨v,hv,r⟩:=h2.at hd
 have hv':xs.reverse[i]?=some v:=by rw [List.getElem?_reverse (by omega),hl];exact hv
 refine ⟨⟨xs,v,h3,rfl,hv'⟩,fun x H2 y=>?_⟩
 obtain ⟨e,y⟩:=y
 subst e
 have:=y xs h3
 rw [hv'] at this
 cases this
 exact ⟨Hi1,Ext.refl s2,r.mono s1⟩
theorem zLx {tg a:Expr} {p pos:Pos} (hg:Gl X "reversed") (hm:X.mg "reversed" = none) (ha:PEd X G a f) (hst:starEach [a] X.env=[(false,eval a X.env)]:=by rfl):PId X G tg (.Call (.Name "reversed" p) [a] [] pos) (zAQ f):=PI.wk (zIi hg hm (iX ha oM (by rw [hst];rfl)) hst) fun σ H Q q=>by
 obtain ⟨ρ,Hi,R,ou⟩:=q
 refine zAP R ou fun v d Hi1 H1 e1 R1 r1 o1=>?_
 cases d with
 | lst ds=>
  obtain ⟨a,xs,rfl,h1,h2⟩:=r1.lstI
  exact ⟨a,xs,rfl,cK R1.s h1,o1.here R1.s _ (zCO h1 h2)⟩
 | _=>exact o1.elim
end
end L3
namespace L3
open PySem PySem.Spec PyProof.Rows L2
unseal PEd PEf PTd PWd PAd PSd eV POd PGd gW PId PSx kY PTs PCd PCf
section
variable {prog:Program} {w:World} {A:Around} {E:Value->Shared->Prop} {s:Shared}
theorem zEc:typeLookup (.type "list_reverseiterator") "__len__" = pure none:=by rw [typeLookup_type,builtinLookup_eq_fast];kernel_rfl
theorem zIX:typeLookup (.type "list_reverseiterator") "__length_hint__" = pure (some (.builtin "list_reverseiterator.__length_hint__")):=by rw [typeLookup_type,builtinLookup_eq_fast];kernel_rfl
theorem zHH {it l:Addr} {i:Int} {Q:Bool->Shared->Prop} (hit:s.heap.IsRevIter it l i) (h:Q false s):wpAny (model prog w) A (Builtin.List.listLengthHint (.ref it)) Q E s:=by
 unfold Builtin.List.listLengthHint
 refine wpAny_bind (wpAny_specialOf hit.typeIs zEc ?_)
 show wpAny _ A (specialOf (Value.ref it) (Str.ofString "__length_hint__") >>= _) _ _ _
 refine wpAny_bind (wpAny_specialOf hit.typeIs zIX ?_)
 generalize hid:("list_reverseiterator.__length_hint__" : String)=id0
 wp_delta
 rw [show splitId id0=some ("list_reverseiterator", "__length_hint__") from by subst hid;decide +kernel]
 subst hid
 refine wpAny_bind (wpAny_isInstance (T := "list_reverseiterator") (b:=true) hit.typeIs (by rw [isSubtype_type];kernel_rfl) ?_)
 refine wpAny_ite_split (fun hab=>absurd hab (by decide)) (fun _=>?_)
 refine wpAny_ite_split (fun _=>?_) (fun hab=>absurd (by decide +kernel) hab)
 refine wpAny_ite_split (fun hab=>absurd hab (by decide +kernel)) (fun _=>?_)
 exact wpAny_pure h
theorem zLs {R:Result->Shared->Prop} {it l:Addr} {items:Array Value} (hh:A.handled=none) (hne:l≠it) (hit:s.heap.IsRevIter it l ((items.size:Int) - 1)) (hl:s.heap.IsList l items) (hz:items.size<=sizeLine) (S:Addr) (res:Value) (c₀:Nat)
  (hS:s.heap.get? S=some { cls:=.type "list", data:=.seq #[] c₀ }) (hSi:S≠it) (hSl:S≠l)
  (hR:∀ h' tk acc' c',(∀ b o,b≠S->b≠it->s.heap.get? b=some o->h'.get? b=some o)->h'.get? S=some { cls:=.type "list", dict:=none,data:=.seq acc' c',slots:=#[] }->
   ItemsOf (fun i v=>items[items.size - 1 - i]?=some v) acc' items.size->R (.ok (.ret res)) { s with heap:=h',toks:=tk }):
  wpAny (model prog w) A.in1 (Builtin.List.listExtendWith (.ref S) (.ref it) res)
   (fun fin s'=>match fin with | .done f=>R (.ok f) s' | .again c'=>c'.quiet=true/\codeAny (model prog w) A c' R s') (fun e s'=>R (.error e) s') s:=by
 have W:=(Walks.listRev (prog:=prog) (w:=w) (A:=A.in1) hh it l hne items).toS
 have hSf:S∉[it,l]:=fun hm=>by
  rcases List.mem_cons.mp hm with e | hm
  ·exact hSi e
  ·exact hSl (List.mem_singleton.mp hm)
 unfold Builtin.List.listExtendWith
 refine wpAny_bind (wpAny_typeOf hit.typeIs ?_)
 have h1:Builtin.List.listSameRef (.ref S) (.ref it)=false:=by simp [Builtin.List.listSameRef,hSi]
 have h2:(Value.type "list_reverseiterator" == Value.type "list")=false:=by decide
 have h3:(Value.type "list_reverseiterator" == Value.type "tuple")=false:=by decide
 simp only [h1,h2,h3,Bool.or_false,Bool.false_eq_true,if_false]
 refine wpAny_bind (wpAny_pyIter_revIter hit ?_)
 refine wpAny_bind (wpAny_holding (zHH hit ?_))
 refine wpAny_ite_split (fun hab=>absurd hab (by decide)) (fun _=>?_)
 refine wpAny_pure ⟨plainId_quiet F.plain_extend_loop _,?_⟩
 refine codeAny_extend_loopS W hz S hSf res items.size 0 _ #[] c₀ rfl (Nat.zero_le _) ⟨Nat.zero_le _,by simpa using hit,hl⟩ hS (ItemsOf.nil _) fun s' acc' c' hm hS' hacc=>?_
 rw [Moved.eq_with hm]
 refine hR s'.heap s'.toks acc' c' (fun b o hb hb' e=>hm.heap b o (fun hmem=>?_) e) hS' hacc
 rcases List.mem_cons.mp hmem with e' | hmem
 ·exact hb e'
 ·exact hb' (List.mem_singleton.mp hmem)
theorem zHC {R:Result->Shared->Prop} {it l:Addr} {items:Array Value} (hh:A.handled=none) (hne:l≠it) (hit:s.heap.IsRevIter it l ((items.size:Int) - 1)) (hl:s.heap.IsList l items) (hz:items.size<=sizeLine) (S:Addr)
  (hS:s.heap.get? S=some { cls:=.type "list", data:=.seq #[] }) (hSi:S≠it) (hSl:S≠l)
  (hR:∀ h' tk acc' c',(∀ b o,b≠S->b≠it->s.heap.get? b=some o->h'.get? b=some o)->h'.get? S=some { cls:=.type "list", dict:=none,data:=.seq acc' c',slots:=#[] }->
   ItemsOf (fun i v=>items[items.size - 1 - i]?=some v) acc' items.size->R (.ok (.ret .none)) { s with heap:=h',toks:=tk }):
  wpAny (model prog w) A.in1 (Builtin.«list.__init__» ⟨[.ref S,.ref it],[]⟩)
   (fun fin s'=>match fin with | .done f=>R (.ok f) s' | .again c'=>c'.quiet=true/\codeAny (model prog w) A c' R s') (fun e s'=>R (.error e) s') s:=by
 show wpAny _ _ (do let old <-Builtin.List.listItems (.ref S);Builtin.List.listUpdate (.ref S) (fun _=>#[]);letGo old.toList.reverse;Builtin.List.listExtendWith (.ref S) (.ref it) .none) _ _ s
 refine wpAny_bind ?_
 unfold Builtin.List.listItems
 refine wpAny_bind (wpAny_seqItems hS rfl (wpAny_pure ?_))
 show wpAny _ _ (updateSeq S (fun _=>#[]) >>= fun _=>letGo (#[]:Array Value).toList.reverse >>= fun _=>Builtin.List.listExtendWith (.ref S) (.ref it) .none) _ _ s
 refine wpAny_bind (wpAny_updateSeq hS rfl ?_)
 have hS₂:=Heap.get?_update_self (Obj.mapSeq (fun _=>(#[]:Array Value))) hS rfl
 have oth:∀ b o,b≠S->s.heap.get? b=some o->(s.heap.update S (Obj.mapSeq (fun _=>(#[]:Array Value)))).get? b=some o:=fun b o hb e=>(Heap.get?_update_other _ _ (Ne.symm hb)).trans e
 refine wpAny_bind (wpAny_letGo ?_)
 refine zLs hh hne (hit.at fun o e=>oth it o (Ne.symm hSi) e) (hl.at fun o e=>oth l o (Ne.symm hSl) e) hz S .none _ hS₂ hSi hSl fun h' tk acc' c' hk hS' hacc=>?_
 exact hR h' tk acc' c' (fun b o hb hb' e=>hk b o hb hb' (oth b o hb e)) hS' hacc
theorem xJ {Q:Value->Shared->Prop} {it l:Addr} {items:Array Value} (hh:A.handled=none) (hne:l≠it) (hit:s.heap.IsRevIter it l ((items.size:Int) - 1)) (hl:s.heap.IsList l items) (hz:items.size<=sizeLine)
  (hQ:∀ h' tk acc' c',(∀ b o,b≠it->s.heap.get? b=some o->h'.get? b=some o)->h'.get? s.heap.objs.size=some { cls:=.type "list", dict:=none,data:=.seq acc' c',slots:=#[] }->
   ItemsOf (fun i v=>items[items.size - 1 - i]?=some v) acc' items.size->Q (.ref s.heap.objs.size) { s with heap:=h',toks:=tk }):
  wpAny (model prog w) A (call (.type "list") [.ref it]) Q E s:=by
 have li:it < s.heap.objs.size:=by obtain ⟨o,e,_⟩:=id hit;exact Heap.lt_size e
 have ll:l < s.heap.objs.size:=by obtain ⟨o,e,_⟩:=id hl;exact Heap.lt_size e
 refine callType_codes (Q₁:=fun obj s₁=>obj=.ref s.heap.objs.size/\s₁={ s with heap:=s.heap.push { cls:=.type "list", data:=.seq #[] } }) F.called_list (F.typeCall_list_1 _) F.entry_list_init
  (code_list_new _ ⟨rfl,rfl⟩) fun obj s₁ h₁=>?_
 obtain ⟨rfl,rfl⟩:=h₁
 have hS:(s.heap.push { cls:=.type "list", data:=.seq #[] }).get? s.heap.objs.size=some { cls:=.type "list", data:=.seq #[] }:=Heap.get?_push_size _ rfl
 refine ⟨⟨_,hS,rfl⟩,F.args_list_init_2 _ _,zHC (A:=A.in1) hh hne (hit.at fun o e=>Heap.get?_push_of_some _ e) (hl.at fun o e=>Heap.get?_push_of_some _ e) hz _ hS (Nat.ne_of_gt li) (Nat.ne_of_gt ll) fun h' tk acc' c' hk hS' hacc=>?_⟩
 exact ⟨rfl,hQ h' tk acc' c' (fun b o hb e=>hk b o (Nat.ne_of_lt (Heap.lt_size e)) hb (Heap.get?_push_of_some _ e)) hS' hacc⟩
end
section
variable {X:Cx} {G:Gx} {f:Ev}
theorem cM.app {xs ys:List V} {us vs:List Value} (h:cM xs us) (h':cM ys vs):cM (xs++ys) (us++vs):=by
 induction h with
 | nil=>exact h'
 | cons r _ ih=>exact .cons r ih
theorem cM.rev {xs:List V} {us:List Value} (h:cM xs us):cM xs.reverse us.reverse:=by
 induction h with
 | nil=>exact .nil
 | cons r _ ih=>rw [List.reverse_cons,List.reverse_cons];exact cM.app ih (.cons r .nil)
theorem IsDs.rev {K:PySem.W.Frag} {H:Hp}:∀ {vs:List V} {ds:List D},IsDs K H vs ds->IsDs K H vs.reverse ds.reverse
 | [],[],_=>.nil
 | _::_,_::_,.cons r h=>by rw [List.reverse_cons,List.reverse_cons];exact (IsDs.rev h).append (.cons r .nil)
def tLr (K:PySem.W.Frag) (ta:TA):TE:=fun σ H Q=>ta σ H fun vs H1=>∃ a xs,vs=[.ref a]/\SqL K H1 a xs/\∀ l,H1 l=none->Q (.ref l) (upd H1 l (.lst xs.reverse))
theorem zCm {a:Expr} {ta:TA} {p q pos pos':Pos} (hc:X.calm=true) (hg:Gl X "list") (hm:X.mg "list" = none) (hv:bootBuiltins "list" = some (.type "list")) (hg':Gl X "reversed") (hm':X.mg "reversed" = none) (ha:PA X [a] ta)
  (hs:starEach [a] X.env=[(false,eval a X.env)]:=by rfl) (hs':starEach [.Call (.Name "reversed" q) [a] [] pos'] X.env=[(false,eval (.Call (.Name "reversed" q) [a] [] pos') X.env)]:=by rfl):
  PE X (.Call (.Name "list" p) [.Call (.Name "reversed" q) [a] [] pos'] [] pos) (tLr X.K ta):=by
 intro pins s σ H Q I h
 refine wpAny_Call_Name_kw (kF I hg hm hv ?_ (by decide) (by decide))
 refine PyProof.Rows.callWith_type1 ?_ hs' rfl
 rw [hs']
 show wpAny _ _ (spliced [(false,eval _ X.env)]) _ _ s
 refine Calls.spliced_cons ?_
 refine Call_ (kF I hg' hm' zBF (PyProof.Rows.callWith_type1 (thn (ha pos' pins s σ H _ I h) fun us s1 ⟨vs,H1,I1,r1,q1⟩=>?_) hs rfl))
 obtain ⟨t,xs,rfl,hq,q⟩:=q1
 cases r1 with
 | cons r rr=>
  cases rr
  cases r
  obtain ⟨its,rv,pt,hz⟩:=I1.list hq
  have hl:=rv.length
  have lt:t < s1.heap.objs.size:=by obtain ⟨o,e,_⟩:=pt.isList;exact Heap.lt_size e
  refine call_reversed_list (items:=its.toArray) pt.isList ?_
  refine Calls.spliced_nil ?_
  refine xJ (items:=its.toArray) (I1.ok.hd hc) (Nat.ne_of_lt lt) ⟨_,Heap.get?_push_size _ rfl,rfl,rfl⟩ (pt.isList.at fun o e=>Heap.get?_push_of_some _ e) (by rw [List.size_toArray];omega) fun h' tk acc' c' hk hS hacc=>?_
  have ea:acc'=its.reverse.toArray:=by
   obtain ⟨n1,n2⟩:=hacc
   refine Array.ext (by simpa using n1) fun j h1 h2=>?_
   have h3:=n2 j _ (Array.getElem?_eq_getElem h1)
   have h4:j < its.length:=by simpa using h2
   rw [List.size_toArray,List.getElem?_toArray] at h3
   refine Option.some.inj ?_
   rw [<-Array.getElem?_eq_getElem h2,List.getElem?_toArray,List.getElem?_reverse h4,h3]
  subst ea
  refine ⟨.ref _,_,I1.laid (t':=tk) (fun b o e=>hk b o (Nat.ne_of_lt (Heap.lt_size e)) (Heap.get?_push_of_some _ e)) (by rw [Heap.size_push];exact Nat.le_succ _) (show iP X.prog X.w _ h' _ (.lst xs.reverse) from ⟨by rw [List.length_reverse];exact hz,its.reverse,c',cM.rev rv,hS⟩),rfl,q _ (I1.hok.fresh (by rw [Heap.size_push];exact Nat.le_succ _))⟩
theorem uA {a:Expr} {p q pos pos':Pos} (hc:X.calm=true) (hg:Gl X "list") (hm:X.mg "list" = none) (hv:bootBuiltins "list" = some (.type "list")) (hg':Gl X "reversed") (hm':X.mg "reversed" = none) (ha:PEd X G a f)
  (hs:starEach [a] X.env=[(false,eval a X.env)]:=by rfl) (hs':starEach [.Call (.Name "reversed" q) [a] [] pos'] X.env=[(false,eval (.Call (.Name "reversed" q) [a] [] pos') X.env)]:=by rfl):
  PEf X G (.Call (.Name "list" p) [.Call (.Name "reversed" q) [a] [] pos'] [] pos) (zAQ f):=
 PE.wk (zCm hc hg hm hv hg' hm' (iX ha oM (by rw [hs];rfl)) hs hs') fun σ H Q q=>by
 obtain ⟨ρ,Hi,R,ou⟩:=q
 refine zAP R ou fun v d Hi1 H1 e1 R1 r1 o1=>?_
 cases d with
 | lst ds=>
  obtain ⟨a,xs,rfl,h1,h2⟩:=r1.lstI
  exact ⟨a,xs,rfl,cK R1.s h1,fun l hl=>o1 _ _ (Ext.newF R1.s hl) l ⟨e1.h.none hl,R1.s.none hl,xs.reverse,aW,h2.rev⟩⟩
 | _=>exact o1.elim
end
section
variable {X:Cx} {G:Gx} {it:Fv} {t:Tv}
theorem Rel.unset {K:PySem.W.Frag} {mg:Str->Option Value} {B Bi Hi H:Hp} {σ σ':L2.St} {ρ:Rho} {j:Nat} (R:Rel K mg B Bi Hi H σ ρ) (hl:σ'.length=σ.length) (hs:∀ k,k≠j->σ'[k]?=σ[k]?):Rel K mg B Bi Hi H σ' (ρ.set j .un) where
 len:=by rw [List.length_set,hl];exact R.len
 ext:=R.ext
 slot:=fun k s q=>by
  by_cases e:j=k
  ·subst e
   by_cases hl:j < ρ.length
   ·rw [List.getElem?_set_self hl] at q;cases q;trivial
   ·rw [List.getElem?_eq_none (by rw [List.length_set];omega)] at q;cases q
  ·rw [List.getElem?_set_ne e] at q
   rw [hs k (Ne.symm e)]
   exact R.slot k s q
 dist:=fun i k a ds es q1 q2 q3 q4=>by
  have h1:∀ {i:Nat} {ds:List D},(ρ.set j .un)[i]?=some (.own ds)->j≠i:=fun {i ds} q e=>by
   subst e
   by_cases hl:j < ρ.length
   ·rw [List.getElem?_set_self hl] at q;cases q
   ·rw [List.getElem?_eq_none (by rw [List.length_set];omega)] at q;cases q
  have n1:=h1 q1
  have n2:=h1 q2
  rw [List.getElem?_set_ne n1] at q1
  rw [List.getElem?_set_ne n2] at q2
  rw [hs i (Ne.symm n1)] at q3
  rw [hs k (Ne.symm n2)] at q4
  exact R.dist i k a ds es q1 q2 q3 q4
theorem zJU {x:Str} {j:Nat} {iter c:Expr} {body:List Stmt} {p p2 pos:Pos} (hp:PassesOwn (model X.prog X.w) X.A X.env X.xe) (hc:X.calm=true) (hN:X.N.Nodup) (hj:X.N[j]?=some x) (hx:Loc X.env.scope x)
  (hi:PId X G (.Name x p) iter it) (ht:PTd X G c t) (hf:X.fn x=true∨X.env.scope.names.lookup x=some .local:=by first | exact .inl rfl | exact .inr rfl | assumption)
  (hs:∀ x,foldedSetIterable iter X.env x=pure x:=by intro _;rfl):PSd X G (.For (.Name x p) iter [.If c body [] p2] [] pos) (zFd j it t):=
 PS.wk (zEH hp hc hi (wW hN hj hx hf) (vB (zKt ht zEb zEC)) hs) fun E σ H q=>by
 obtain ⟨ρ,Hi,R,h⟩:=q
 obtain ⟨Hf,s1,R1,fl⟩:=R.frz
 unfold zFd at h
 cases z:it (ρ.map Sl.frz) with
 | no=>rw [z] at h;exact h.elim
 | err c=>rw [z] at h;exact h.elim
 | ok ds=>
  rw [z] at h
  by_cases al:zFm t j (ρ.map Sl.frz) ds=true
  ·have h':Fin X G Hi E (.ok (.nx (ρ.set j .un))):=by
    have h2:Fin X G Hi E (if zFm t j (ρ.map Sl.frz) ds=true then .ok (.nx (ρ.set j .un)) else .no):=h
    rw [if_pos al] at h2
    exact h2
   refine ⟨ρ.map Sl.frz,Hf,R1,?_⟩
   rw [z]
   intro Hi1 H1 e1 J gv
   refine ⟨fun i m σ' H'=>m=ds.length - i/\(σ'=σ∨∃ v,σ'=σ.set j (some v))/\∃ Hk,Ext Hf H Hk H'/\Same Hi1 Hk,⟨_,rfl,.inl rfl,Hi1,e1,Same.refl _⟩,?_⟩
   rintro i m σ' H' ⟨rfl,hσ,Hk,ek,sk⟩
   obtain ⟨w1,w2⟩:=gv Hk H' sk ek.s i
   by_cases hl:i < ds.length
   ·obtain ⟨d,hd⟩:∃ d,ds[i]?=some d:=⟨_,List.getElem?_eq_getElem hl⟩
    obtain ⟨go,yl⟩:=w2 d hd
    refine .inr ⟨go,fun σ2 H2=>(∃ v,σ2=σ.set j (some v))/\∃ Hk,Ext Hf H Hk H2/\Same Hi1 Hk,fun σ2 H2 z=>⟨ds.length - (i+1),by omega,rfl,.inr z.1,z.2⟩,fun x H2 y=>?_⟩
    obtain ⟨Hk2,e2,r2⟩:=yl x H2 y
    have es:σ'.set j (some x)=σ.set j (some x):=by
     rcases hσ with rfl | ⟨v,rfl⟩
     ·rfl
     ·rw [List.set_set]
    have ek2:Ext Hf H Hk2 H2:=ek.trans e2
    have R2:jF X G Hk2 H2 (σ.set j (some x)) ((ρ.map Sl.frz).set j (.val d)):=(R1.grow ek2).set r2
    show tTb X G t (σ'.set j (some x)) H2 _
    rw [es]
    refine ⟨_,Hk2,R2,?_⟩
    rw [zDZ al (List.mem_of_getElem? hd)]
    intro Hk3 H3 e3
    exact ⟨⟨x,rfl⟩,Hk3,ek2.trans e3,(sk.trans e2.i).trans e3.i⟩
   ·obtain ⟨Ht,et,_⟩:=Ext.thaw s1 fl R1.s ek
    refine .inl ⟨w1 (by omega),h' _ Ht H' et.i ((R.grow et).unset ?_ ?_)⟩
    ·rcases hσ with rfl | ⟨v,rfl⟩
     ·rfl
     ·rw [List.length_set]
    ·intro k hk
     rcases hσ with rfl | ⟨v,rfl⟩
     ·rfl
     ·rw [List.getElem?_set_ne (Ne.symm hk)]
  ·have h2:Fin X G Hi E (if zFm t j (ρ.map Sl.frz) ds=true then .ok (.nx (ρ.set j .un)) else .no):=h
   rw [if_neg al] at h2
   exact h2.elim
end
end L3
theorem PySem.W.Fast.tw17340484962412766739:True:=trivial
theorem PySem.W.Fast.tw10324117962462384112:True:=trivial
theorem PySem.W.Fast.tw15640214062824657852:True:=trivial
theorem PySem.W.Fast.tw17861372972881342762:True:=trivial
theorem PySem.W.Fast.tw10018507192491272436:True:=trivial
theorem PySem.W.Fast.tw17711522794815587319:True:=trivial
theorem PySem.W.Fast.tw9897169968430146081:True:=trivial
theorem PySem.W.Fast.tw9962684506335225187:True:=trivial
theorem PySem.W.Fast.tw15202711902218117916:True:=trivial
theorem PySem.W.Fast.tw13744624463498876968:True:=trivial
theorem PySem.W.Fast.tw7162249994772657123:True:=trivial
theorem PySem.W.Fast.tw13596100798382654794:True:=trivial
theorem PySem.W.Fast.tw15320970142328633621:True:=trivial
theorem PySem.W.Fast.tw1646648787343178224:True:=trivial
theorem PySem.W.Fast.tw13488461562725386368:True:=trivial
theorem PySem.W.Fast.tw14038412420155363530:True:=trivial
theorem PySem.W.Fast.tw11876463877224466995:True:=trivial
theorem PySem.W.Fast.tw2916790621190745473:True:=trivial
theorem PySem.W.Fast.tw5235520629489770617:True:=trivial
theorem PySem.W.Fast.tw13945119894755558005:True:=trivial
theorem PySem.W.Fast.tw6984584146862499235:True:=trivial
theorem PySem.W.Fast.tw12527874793613721996:True:=trivial
theorem PySem.W.Fast.tw15518593940499903064:True:=trivial
theorem PySem.W.Fast.tw10465288796039513472:True:=trivial
theorem PySem.W.Fast.tw8394759782705914802:True:=trivial
theorem PySem.W.Fast.tw14174496485423475141:True:=trivial
theorem PySem.W.Fast.tw5786310312172403803:True:=trivial
theorem PySem.W.Fast.tw9207335263696060172:True:=trivial
theorem PySem.W.Fast.tw16697571027705709380:True:=trivial
theorem PySem.W.Fast.tw7608604803942272191:True:=trivial
theorem PySem.W.Fast.tw14194932768130528213:True:=trivial
theorem PySem.W.Fast.tw13603297420433363854:True:=trivial
theorem PySem.W.Fast.tw1309492781810942074:True:=trivial
theorem PySem.W.Fast.tw9208170070448969308:True:=trivial
theorem PySem.W.Fast.tw11558481212100740812:True:=trivial
theorem PySem.W.Fast.tw4706845304495954638:True:=trivial
theorem PySem.W.Fast.tw13812777817592352447:True:=trivial
theorem PySem.W.Fast.tw7382950848888069702:True:=trivial
theorem PySem.W.Fast.tw7172195745306565294:True:=trivial
theorem PySem.W.Fast.tw11510588507111171795:True:=trivial
theorem PySem.W.Fast.tw3722524949709377707:True:=trivial
theorem PySem.W.Fast.tw7403734668804450713:True:=trivial
theorem PySem.W.Fast.tw10189544707115156673:True:=trivial
theorem PySem.W.Fast.tw1399363237018719013:True:=trivial
theorem PySem.W.Fast.tw14186504572036105193:True:=trivial
theorem PySem.W.Fast.tw15960406149190839429:True:=trivial
theorem PySem.W.Fast.tw4187442066662751498:True:=trivial
theorem PySem.W.Fast.tw18376201094913278645:True:=trivial
theorem PySem.W.Fast.tw18412467516349150676:True:=trivial
theorem PySem.W.Fast.tw4254549434257917617:True:=trivial
theorem PySem.W.Fast.tw475928035213261593:True:=trivial
theorem PySem.W.Fast.tw6912808715938396034:True:=trivial
theorem PySem.W.Fast.tw10520814517255650470:True:=trivial
theorem PySem.W.Fast.tw11895135463362241478:True:=trivial
theorem PySem.W.Fast.tw18165504989515260168:True:=trivial
theorem PySem.W.Fast.tw3465923836324864673:True:=trivial
theorem PySem.W.Fast.tw8659894689317109226:True:=trivial
theorem PySem.W.Fast.tw6748627529395273688:True:=trivial
theorem PySem.W.Fast.tw15568159247838112057:True:=trivial
theorem PySem.W.Fast.tw9509729566360418248:True:=trivial
theorem PySem.W.Fast.tw13342431838952797792:True:=trivial
theorem PySem.W.Fast.tw17457486502509875626:True:=trivial
theorem PySem.W.Fast.tw5200927163718300218:True:=trivial
theorem PySem.W.Fast.tw16292333527035758638:True:=trivial
theorem PySem.W.Fast.tw14916486238390890224:True:=trivial
theorem PySem.W.Fast.tw16558445211576492894:True:=trivial
theorem PySem.W.Fast.tw15649680914420916256:True:=trivial
theorem PySem.W.Fast.tw5148330774483232533:True:=trivial
theorem PySem.W.Fast.tw12505781759281641547:True:=trivial
theorem PySem.W.Fast.tw13433259247923190603:True:=trivial
theorem PySem.W.Fast.tw3818562878505240737:True:=trivial
theorem PySem.W.Fast.tw5776481253195446314:True:=trivial
theorem PySem.W.Fast.tw467320651289851919:True:=trivial
theorem PySem.W.Fast.tw12861099351996547392:True:=trivial
theorem PySem.W.Fast.tw8527581289610797546:True:=trivial
theorem PySem.W.Fast.tw8048431166791636262:True:=trivial
theorem PySem.W.Fast.tw8833700841534719280:True:=trivial
theorem PySem.W.Fast.tw8342360026847563458:True:=trivial
theorem PySem.W.Fast.tw9632932831237527112:True:=trivial
theorem PySem.W.Fast.tw17451151821992021722:True:=trivial
theorem PySem.W.Fast.tw2386598702715565760:True:=trivial
theorem PySem.W.Fast.tw502305443515943853:True:=trivial
theorem PySem.W.Fast.tw14761994249341996694:True:=trivial
theorem PySem.W.Fast.tw15255702208799692534:True:=trivial
theorem PySem.W.Fast.tw631206355226424390:True:=trivial
theorem PySem.W.Fast.tw7161818267075052615:True:=trivial
theorem PySem.W.Fast.tw4980550695220268931:True:=trivial
theorem PySem.W.Fast.tw16875077722583207397:True:=trivial
theorem PySem.W.Fast.tw9487625905937725441:True:=trivial
theorem PySem.W.Fast.tw10360166527384404181:True:=trivial
theorem PySem.W.Fast.tw9694073101667223433:True:=trivial
theorem PySem.W.Fast.tw12279563511043288784:True:=trivial
theorem PySem.W.Fast.tw7029525640882488125:True:=trivial
theorem PySem.W.Fast.tw3502552479951499801:True:=trivial
theorem PySem.W.Fast.tw14797622200007809907:True:=trivial
theorem PySem.W.Fast.tw4703577433200177926:True:=trivial
theorem PySem.W.Fast.tw631761541911756817:True:=trivial
theorem PySem.W.Fast.tw11047862530429964912:True:=trivial
theorem PySem.W.Fast.tw575746310548408861:True:=trivial
theorem PySem.W.Fast.tw1309455952845104950:True:=trivial
theorem PySem.W.Fast.tw737228576435864037:True:=trivial
theorem PySem.W.Fast.tw16846496294766387135:True:=trivial
theorem PySem.W.Fast.tw17929348303933474282:True:=trivial
theorem PySem.W.Fast.tw306025137162525713:True:=trivial
theorem PySem.W.Fast.tw3681016915294214767:True:=trivial
theorem PySem.W.Fast.tw10031550731362678663:True:=trivial
theorem PySem.W.Fast.tw4829298005430731593:True:=trivial
theorem PySem.W.Fast.tw1293686097702934540:True:=trivial
theorem PySem.W.Fast.tw10263049827542062333:True:=trivial
theorem PySem.W.Fast.tw16527633297329290594:True:=trivial
theorem PySem.W.Fast.tw17057059422429342352:True:=trivial
theorem PySem.W.Fast.tw10900769341853000510:True:=trivial
theorem PySem.W.Fast.tw12970108959312787092:True:=trivial
theorem PySem.W.Fast.tw13074872880036675579:True:=trivial
theorem PySem.W.Fast.tw16042700539066278179:True:=trivial
theorem PySem.W.Fast.tw10267694078454609444:True:=trivial
theorem PySem.W.Fast.tw6853574983134346636:True:=trivial
theorem PySem.W.Fast.tw5107317153345230773:True:=trivial
theorem PySem.W.Fast.tw17368386091380730175:True:=trivial
theorem PySem.W.Fast.tw15736251030926248827:True:=trivial
theorem PySem.W.Fast.tw11897583768223970718:True:=trivial
theorem PySem.W.Fast.tw14106249489883289508:True:=trivial
theorem PySem.W.Fast.tw9013401953042294822:True:=trivial
theorem PySem.W.Fast.tw343037204014819747:True:=trivial
theorem PySem.W.Fast.tw6340394254334560450:True:=trivial
theorem PySem.W.Fast.tw16667746539380387045:True:=trivial
theorem PySem.W.Fast.tw693682470920842191:True:=trivial
theorem PySem.W.Fast.tw2683670516709634701:True:=trivial
theorem PySem.W.Fast.tw5956917183488120981:True:=trivial
theorem PySem.W.Fast.tw14693327821798315341:True:=trivial
theorem PySem.W.Fast.tw7648517201836952574:True:=trivial
theorem PySem.W.Fast.tw4840906045242130506:True:=trivial
theorem PySem.W.Fast.tw17050920848071573907:True:=trivial
theorem PySem.W.Fast.tw10025782605568369150:True:=trivial
theorem PySem.W.Fast.tw4050285024114345752:True:=trivial
theorem PySem.W.Fast.tw16199313961405331134:True:=trivial
theorem PySem.W.Fast.tw5877052029447532447:True:=trivial
theorem PySem.W.Fast.tw392297257724920094:True:=trivial
theorem PySem.W.Fast.tw17172834972932637629:True:=trivial
theorem PySem.W.Fast.tw14517857861460621822:True:=trivial
theorem PySem.W.Fast.tw10734943132342179635:True:=trivial
theorem PySem.W.Fast.tw4887453857409526139:True:=trivial
theorem PySem.W.Fast.tw553889813304391104:True:=trivial
theorem PySem.W.Fast.tw9919564644869244236:True:=trivial
theorem PySem.W.Fast.tw17752763991839232307:True:=trivial
theorem PySem.W.Fast.tw17312341045151653978:True:=trivial
theorem PySem.W.Fast.tw5173115327270157499:True:=trivial
theorem PySem.W.Fast.tw1080123029025561512:True:=trivial
theorem PySem.W.Fast.tw11682512688819660028:True:=trivial
theorem PySem.W.Fast.tw10379173661386183967:True:=trivial
theorem PySem.W.Fast.tw15962584888703012982:True:=trivial
theorem PySem.W.Fast.tw10409208292280828593:True:=trivial
theorem PySem.W.Fast.tw17873463468461510836:True:=trivial
theorem PySem.W.Fast.tw12412193302523378506:True:=trivial
theorem PySem.W.Fast.tw2028383965359321269:True:=trivial
theorem PySem.W.Fast.tw9103991268915437299:True:=trivial
theorem PySem.W.Fast.tw11052955109710815274:True:=trivial
theorem PySem.W.Fast.tw17911233560998890806:True:=trivial
theorem PySem.W.Fast.tw11728262507857200970:True:=trivial
theorem PySem.W.Fast.tw3566540603860329440:True:=trivial
theorem PySem.W.Fast.tw3919531829925681625:True:=trivial
theorem PySem.W.Fast.tw4938665061599515757:True:=trivial
theorem PySem.W.Fast.tw11520243007075604088:True:=trivial
theorem PySem.W.Fast.tw14680632803233320586:True:=trivial
theorem PySem.W.Fast.tw14758510616278910845:True:=trivial
theorem PySem.W.Fast.tw1126518530291506063:True:=trivial
theorem PySem.W.Fast.tw11553549785009965803:True:=trivial
theorem PySem.W.Fast.tw7760912866521183153:True:=trivial
theorem PySem.W.Fast.tw4008702274334849535:True:=trivial
theorem PySem.W.Fast.tw3397029093412797901:True:=trivial
theorem PySem.W.Fast.tw3575665717466401644:True:=trivial
theorem PySem.W.Fast.tw8602333413234385967:True:=trivial
theorem PySem.W.Fast.tw9966528469406745335:True:=trivial
theorem PySem.W.Fast.tw3825536147425477582:True:=trivial
theorem PySem.W.Fast.tw11163304023824429478:True:=trivial
theorem PySem.W.Fast.tw15382250144865678314:True:=trivial
theorem PySem.W.Fast.tw1213807191410360555:True:=trivial
theorem PySem.W.Fast.tw6661909407298423771:True:=trivial
theorem PySem.W.Fast.tw13623122143182320750:True:=trivial
theorem PySem.W.Fast.tw4185307846320417289:True:=trivial
theorem PySem.W.Fast.tw5584444245218756914:True:=trivial
theorem PySem.W.Fast.tw12720218719426463447:True:=trivial
theorem PySem.W.Fast.tw10796411395689607671:True:=trivial
theorem PySem.W.Fast.tw7908377970685902000:True:=trivial
theorem PySem.W.Fast.tw4911149697672819135:True:=trivial
theorem PySem.W.Fast.tw8302913054197427936:True:=trivial
theorem PySem.W.Fast.tw15612571405333659504:True:=trivial
theorem PySem.W.Fast.tw13276860302114048240:True:=trivial
theorem PySem.W.Fast.tw15354302011644629167:True:=trivial
theorem PySem.W.Fast.tw8106580561181741833:True:=trivial
theorem PySem.W.Fast.tw2656553233893342969:True:=trivial
theorem PySem.W.Fast.tw4520144851034955539:True:=trivial
theorem PySem.W.Fast.tw15212642996165021511:True:=trivial
theorem PySem.W.Fast.tw12085665929923754096:True:=trivial
theorem PySem.W.Fast.tw13224452963672382151:True:=trivial
theorem PySem.W.Fast.tw15390934820012168611:True:=trivial
theorem PySem.W.Fast.tw12647826687450528255:True:=trivial
theorem PySem.W.Fast.tw9978078695706216599:True:=trivial
theorem PySem.W.Fast.tw9564492464401118494:True:=trivial
theorem PySem.W.Fast.tw2328412830080783783:True:=trivial
theorem PySem.W.Fast.tw6805274524962497221:True:=trivial
theorem PySem.W.Fast.tw12528981923721592925:True:=trivial
theorem PySem.W.Fast.tw10528588167312843035:True:=trivial
theorem PySem.W.Fast.tw7505017924319968299:True:=trivial
theorem PySem.W.Fast.tw3853439104053608455:True:=trivial
theorem PySem.W.Fast.tw8200424893580633087:True:=trivial
theorem PySem.W.Fast.tw17296126124224743335:True:=trivial
theorem PySem.W.Fast.tw1613361693178477473:True:=trivial
theorem PySem.W.Fast.tw1542349943406852589:True:=trivial
theorem PySem.W.Fast.tw11662225529374186160:True:=trivial
theorem PySem.W.Fast.tw17123256174678366707:True:=trivial
theorem PySem.W.Fast.tw2457211709953833097:True:=trivial
theorem PySem.W.Fast.tw10344047858063000794:True:=trivial
theorem PySem.W.Fast.tw7368816495435322859:True:=trivial
theorem PySem.W.Fast.tw2805295309971997683:True:=trivial
theorem PySem.W.Fast.tw13146135811847469246:True:=trivial
theorem PySem.W.Fast.tw405830080852683994:True:=trivial
theorem PySem.W.Fast.tw2054964280954715815:True:=trivial
theorem PySem.W.Fast.tw6346814957523572083:True:=trivial
theorem PySem.W.Fast.tw10389897916119335894:True:=trivial
theorem PySem.W.Fast.tw839624351580313226:True:=trivial
theorem PySem.W.Fast.tw1464687642761194264:True:=trivial
theorem PySem.W.Fast.tw16991680644553920247:True:=trivial
theorem PySem.W.Fast.tw4877101670339252048:True:=trivial
theorem PySem.W.Fast.tw11581853019252014854:True:=trivial
theorem PySem.W.Fast.tw16504996001192786080:True:=trivial
theorem PySem.W.Fast.tw16368236459095965315:True:=trivial
theorem PySem.W.Fast.tw1936661487850361452:True:=trivial
theorem PySem.W.Fast.tw1478397683188174288:True:=trivial
theorem PySem.W.Fast.tw17046178472535132539:True:=trivial
theorem PySem.W.Fast.tw8183267826584254998:True:=trivial
theorem PySem.W.Fast.tw3197406067915323895:True:=trivial
theorem PySem.W.Fast.tw3361100224413504601:True:=trivial
theorem PySem.W.Fast.tw10292630267435115608:True:=trivial
theorem PySem.W.Fast.tw7007114039889232327:True:=trivial
theorem PySem.W.Fast.tw8559603705385197966:True:=trivial
theorem PySem.W.Fast.tw8704202390117873749:True:=trivial
theorem PySem.W.Fast.tw11822282015401281116:True:=trivial
theorem PySem.W.Fast.tw17991606276046166909:True:=trivial
theorem PySem.W.Fast.tw9767783424861384746:True:=trivial
theorem PySem.W.Fast.tw15361606282655771108:True:=trivial
theorem PySem.W.Fast.tw14533803435569587582:True:=trivial
theorem PySem.W.Fast.tw4097212846956343782:True:=trivial
theorem PySem.W.Fast.tw1767057354976918363:True:=trivial
theorem PySem.W.Fast.tw6189926946099502552:True:=trivial
theorem PySem.W.Fast.tw2459026813073123442:True:=trivial
theorem PySem.W.Fast.tw6059695955954302686:True:=trivial
theorem PySem.W.Fast.tw3784301724346161767:True:=trivial
theorem PySem.W.Fast.tw7351638205568704227:True:=trivial
theorem PySem.W.Fast.tw12525692194996397258:True:=trivial
theorem PySem.W.Fast.tw319698130741721057:True:=trivial
theorem PySem.W.Fast.tw5786222956138737744:True:=trivial
theorem PySem.W.Fast.tw10694785282962166073:True:=trivial
theorem PySem.W.Fast.tw13681816636563200630:True:=trivial
theorem PySem.W.Fast.tw6213808028750262669:True:=trivial
theorem PySem.W.Fast.tw9221210395199452933:True:=trivial
theorem PySem.W.Fast.tw18443729098440546654:True:=trivial
theorem PySem.W.Fast.tw4778179142115213250:True:=trivial
theorem PySem.W.Fast.tw12348047774000411590:True:=trivial
theorem PySem.W.Fast.tw17206888084399811038:True:=trivial
theorem PySem.W.Fast.tw9275072899140876984:True:=trivial
theorem PySem.W.Fast.tw46059005453867208:True:=trivial
theorem PySem.W.Fast.tw707397865559755334:True:=trivial
theorem PySem.W.Fast.tw2675880947614256408:True:=trivial
theorem PySem.W.Fast.tw6205429305185439996:True:=trivial
theorem PySem.W.Fast.tw14558972915788989679:True:=trivial
theorem PySem.W.Fast.tw17632745896106104143:True:=trivial
theorem PySem.W.Fast.tw3727290818971104558:True:=trivial
theorem PySem.W.Fast.tw6199200979663240670:True:=trivial
theorem PySem.W.Fast.tw18162893127964292310:True:=trivial
theorem PySem.W.Fast.tw934191438679848522:True:=trivial
theorem PySem.W.Fast.tw776839774747432943:True:=trivial
theorem PySem.W.Fast.tw150050688948497731:True:=trivial
theorem PySem.W.Fast.tw3984419818132238136:True:=trivial
theorem PySem.W.Fast.tw2271126108196540648:True:=trivial
theorem PySem.W.Fast.tw4484694754153120212:True:=trivial
theorem PySem.W.Fast.tw4048471133038079520:True:=trivial
theorem PySem.W.Fast.tw11455233792096624214:True:=trivial
theorem PySem.W.Fast.tw2972568104261942486:True:=trivial
theorem PySem.W.Fast.tw14253896190496111157:True:=trivial
theorem PySem.W.Fast.tw12038417164684871054:True:=trivial
theorem PySem.W.Fast.tw17600290751959108400:True:=trivial
theorem PySem.W.Fast.tw8037952531925977420:True:=trivial
theorem PySem.W.Fast.tw9583397923204177579:True:=trivial
theorem PySem.W.Fast.tw13121775033975340295:True:=trivial
theorem PySem.W.Fast.tw13517343278722396043:True:=trivial
theorem PySem.W.Fast.tw2828259910884258169:True:=trivial
theorem PySem.W.Fast.tw13337282361807643228:True:=trivial
theorem PySem.W.Fast.tw5683628238435018129:True:=trivial
theorem PySem.W.Fast.tw3825765494748294221:True:=trivial
theorem PySem.W.Fast.tw5553823939056096068:True:=trivial
theorem PySem.W.Fast.tw16707693595710177200:True:=trivial
theorem PySem.W.Fast.tw16149794809285918407:True:=trivial
theorem PySem.W.Fast.tw16657309926707831671:True:=trivial
theorem PySem.W.Fast.tw14963948852657652789:True:=trivial
theorem PySem.W.Fast.tw16678622893281827809:True:=trivial
theorem PySem.W.Fast.tw393834889565507367:True:=trivial
theorem PySem.W.Fast.tw14069578907622367294:True:=trivial
theorem PySem.W.Fast.tw15142446236296100206:True:=trivial
theorem PySem.W.Fast.tw17824572675329428463:True:=trivial
theorem PySem.W.Fast.tw2866738372284212659:True:=trivial
theorem PySem.W.Fast.tw6320464286825013331:True:=trivial
theorem PySem.W.Fast.tw14281775128830070619:True:=trivial
theorem PySem.W.Fast.tw12852503994897934540:True:=trivial
theorem PySem.W.Fast.tw1779621173814944100:True:=trivial
theorem PySem.W.Fast.tw14275890513400547795:True:=trivial
theorem PySem.W.Fast.tw3495329836607690157:True:=trivial
theorem PySem.W.Fast.tw5890644767798367133:True:=trivial
theorem PySem.W.Fast.tw18392519942662496703:True:=trivial
theorem PySem.W.Fast.tw7976992211530323695:True:=trivial
theorem PySem.W.Fast.tw10601003613680787371:True:=trivial
theorem PySem.W.Fast.tw1331895555040604253:True:=trivial
theorem PySem.W.Fast.tw15216300336123740055:True:=trivial
theorem PySem.W.Fast.tw5361211754590840051:True:=trivial
theorem PySem.W.Fast.tw12147891770287712695:True:=trivial
theorem PySem.W.Fast.tw4843523178181331086:True:=trivial
theorem PySem.W.Fast.tw7151826317163256300:True:=trivial
theorem PySem.W.Fast.tw13697729490407348799:True:=trivial
theorem PySem.W.Fast.tw3696154766770599654:True:=trivial
theorem PySem.W.Fast.tw6060426079435773078:True:=trivial
theorem PySem.W.Fast.tw1731045984555908566:True:=trivial
theorem PySem.W.Fast.tw5900208581472371554:True:=trivial
theorem PySem.W.Fast.tw16227398639513686072:True:=trivial
theorem PySem.W.Fast.tw1543023521844436226:True:=trivial
theorem PySem.W.Fast.tw6309872000206576402:True:=trivial
theorem PySem.W.Fast.tw17754959045990418329:True:=trivial
theorem PySem.W.Fast.tw8977697443862217635:True:=trivial
theorem PySem.W.Fast.tw13688824658390586758:True:=trivial
theorem PySem.W.Fast.tw800151964442702364:True:=trivial
theorem PySem.W.Fast.tw14327349210561315290:True:=trivial
theorem PySem.W.Fast.tw13987592155526979079:True:=trivial
theorem PySem.W.Fast.tw18216216241822425374:True:=trivial
theorem PySem.W.Fast.tw9465758009353092255:True:=trivial
theorem PySem.W.Fast.tw7497752223530812689:True:=trivial
theorem PySem.W.Fast.tw2903624252756765744:True:=trivial
theorem PySem.W.Fast.tw17655715598947244982:True:=trivial
theorem PySem.W.Fast.tw9469350231798284104:True:=trivial
theorem PySem.W.Fast.tw8161118160113259259:True:=trivial
theorem PySem.W.Fast.tw17000757594637552817:True:=trivial
theorem PySem.W.Fast.tw13013631189394896657:True:=trivial
theorem PySem.W.Fast.tw6029420295090815273:True:=trivial
theorem PySem.W.Fast.tw14303561132963173464:True:=trivial
theorem PySem.W.Fast.tw12298169654821469875:True:=trivial
theorem PySem.W.Fast.tw8535649539682209910:True:=trivial
theorem PySem.W.Fast.tw12539331408320972227:True:=trivial
theorem PySem.W.Fast.tw9933231070877326817:True:=trivial
theorem PySem.W.Fast.tw927755624899876501:True:=trivial
theorem PySem.W.Fast.tw3038950643282218972:True:=trivial
theorem PySem.W.Fast.tw8257034884918510121:True:=trivial
theorem PySem.W.Fast.tw10633525393888601598:True:=trivial
theorem PySem.W.Fast.tw7832771358138196810:True:=trivial
theorem PySem.W.Fast.tw1463344069480761520:True:=trivial
theorem PySem.W.Fast.tw12470202676248858005:True:=trivial
theorem PySem.W.Fast.tw11447314828419824995:True:=trivial
theorem PySem.W.Fast.tw1283833754758096426:True:=trivial
theorem PySem.W.Fast.tw493603926604643810:True:=trivial
theorem PySem.W.Fast.tw7604415997739136785:True:=trivial
theorem PySem.W.Fast.tw18111807395293795052:True:=trivial
theorem PySem.W.Fast.tw4508668824112438610:True:=trivial
theorem PySem.W.Fast.tw920707838028471644:True:=trivial
theorem PySem.W.Fast.tw17358392591844416335:True:=trivial
theorem PySem.W.Fast.tw16334698279407825324:True:=trivial
theorem PySem.W.Fast.tw14420998137697065373:True:=trivial
theorem PySem.W.Fast.tw5244941021642766695:True:=trivial
theorem PySem.W.Fast.tw9135628627415925113:True:=trivial
theorem PySem.W.Fast.tw10442356022641686468:True:=trivial
theorem PySem.W.Fast.tw6722195062275204758:True:=trivial
theorem PySem.W.Fast.tw4201544861213240062:True:=trivial
theorem PySem.W.Fast.tw10383118175054890306:True:=trivial
theorem PySem.W.Fast.tw14859854064583574718:True:=trivial
theorem PySem.W.Fast.tw14723119783882751794:True:=trivial
theorem PySem.W.Fast.tw12455104870566854913:True:=trivial
theorem PySem.W.Fast.tw2762754922679479282:True:=trivial
namespace Lw
open L3 PySem
def tbT:List Str:=[]
def zNJ:List (Str×List Str):=[]
def fW:D:=(.tup [(.int 0),(.int 1)])
def d_ACROSS:D:=(.int 0)
def d_UP:D:=(.int 1)
def aS:List (Str×Str):=[("row", "back"),("back", "row"),("even", "lack"),("lack", "even"),("part", "part"),("half", "half")]
def d_WEIGHTED:D:=(.tup [(.str "even"),(.str "lack")])
def d_HALF:D:=(.tup [(.int 1),(.int 2)])
abbrev mT:Sv:=(dU 1 (aK 2))
abbrev mF:Sv:=(bF (dU 0 (aK 1)) mT)
abbrev mD:Sv:=(bF (dU 2 (eOp zCC (aK 0) (aK 1))) mF)
abbrev nD:Sv:=(jL (aK 0))
abbrev mK:Sv:=(bF (eN (dR (eOp oNe (aK 1) (eC (.int 0)))) mD) nD)
abbrev mC:Sv:=(bF (dU 1 (eB zGw (aE (aK 1) aNil))) mK)
def cV:Mir:=fn 2 3 (bF (dU 0 (eB zGw (aE (aK 0) aNil))) mC)
def bP:Mir:=fn 1 1 (jL (lF (aE (aK 0) (aE (eC (.int 1)) aNil))))
def iM:Mir:=fn 2 2 (jL (eOp oLt (eOp pD (eOp oIx (aK 0) (eC (.int 0))) (eOp oIx (aK 1) (eC (.int 1)))) (eOp pD (eOp oIx (aK 1) (eC (.int 0))) (eOp oIx (aK 0) (eC (.int 1))))))
abbrev uD:Sv:=(dU 1 (eOp pD (aK 1) (eOp oIx (aK 2) (eC (.int 1)))))
abbrev yN:Sv:=(dU 1 (eC (.int 1)))
abbrev qE:Sv:=(xA (rX (aK 0)) (gName 2) uD)
def gQ:List D->Res (List Int):=vY yN qE
def dE:Mir:=fn 1 1 (sIf (dR (eUn (nZ aS) (aK 0))) (jI "BadWay" (aE (eC (.str "no such way")) aNil)) sNext)
abbrev nT:Sv:=(sIf (dR (eOp oLt (aK 1) (eC (.int 0)))) (jI "BadClaim" (aE (eC (.str "a claim is below nought")) aNil)) sNext)
abbrev nN:Sv:=(xA (rX (aK 0)) (gName 1) nT)
def dD:Mir:=fn 1 2 (bF (sIf (dR (eOp oEq (eB kZ (aE (aK 0) aNil)) (eC (.int 0)))) (jI "BadClaim" (aE (eC (.str "there is no claim")) aNil)) sNext) nN)
abbrev nG:Sv:=(sIf (zAU (dR (eOp oLt (aK 4) (eC (.int 1)))) (dR (eOp oGt (aK 4) (eOp zJn (eC (.int 10)) (eC (.int 6)))))) (jI "BadWeights" (aE (eC (.str "a weight is not from 1 to 10 ** 6")) aNil)) sNext)
abbrev mO:Sv:=(xA (rX (aK 1)) (gName 4) nG)
abbrev mW:Sv:=(bF (sIf (dR (eOp oNe (eB kZ (aE (aK 1) aNil)) (aK 3))) (jI "BadWeights" (aE (eC (.str "more or fewer weights than are due")) aNil)) sNext) mO)
def bJ:Mir:=fn 3 5 (bF (dU 3 (eIf (dR (eOp oIn (aK 0) (eC d_WEIGHTED))) (aK 2) (eC (.int 0)))) mW)
abbrev rE:Sv:=(jL (eC (.int 0)))
def eR:Mir:=fn 2 2 (bF (sIf (dR (eOp oLt (aK 1) (eB kZ (aE (aK 0) aNil)))) (jL (eOp oIx (aK 0) (aK 1))) sNext) rE)
abbrev zQ:Sv:=(dU 3 (aK 4))
abbrev yY:Sv:=(bF (dU 2 (aK 3)) zQ)
abbrev zV:Sv:=(bF (dU 4 (eOp zCC (aK 2) (aK 3))) yY)
abbrev yH:Sv:=(jL (lF (aE (eOp zDz (aK 0) (aK 2)) (aE (eOp zDz (aK 1) (aK 2)) aNil))))
abbrev oQ:Sv:=(bF (sIf (dR (eOp oLt (aK 1) (eC (.int 0)))) (dU 2 (eOp wZ (eC (.int 0)) (aK 2))) sNext) yH)
abbrev xU:Sv:=(bF (eN (dR (eOp oGt (aK 3) (eC (.int 0)))) zV) oQ)
abbrev yK:Sv:=(bF (dU 3 (eB zGw (aE (aK 1) aNil))) xU)
def dL:Mir:=fn 2 5 (bF (dU 2 (eB zGw (aE (aK 0) aNil))) yK)
def gA:Mir:=fn 2 2 (jL (eOp oLt (eOp pD (eOp oIx (aK 0) (eC (.int 0))) (eOp oIx (aK 1) (eC (.int 1)))) (eOp pD (eOp oIx (aK 1) (eC (.int 0))) (eOp oIx (aK 0) (eC (.int 1))))))
abbrev sV:Sv:=(zBA 2 (eOp oIx (eF (pC (aE (eOp zCC (eOp zDz (aK 4) (eC (.int 7))) (eC (.int 13))) (aE (eOp zCC (eOp zDz (aK 4) (eC (.int 97))) (eC (.int 4))) (aE (eOp zCC (aK 3) (eOp zJn (eC (.int 10)) (eC (.int 30)))) aNil))))) (eOp oIx (eF (pC (aE (eC (.int 0)) (aE (eC (.int 0)) (aE (eC (.int 1)) (aE (eC (.int 2)) aNil)))))) (eOp zCC (aK 1) (eC (.int 4))))))
abbrev sU:Sv:=(bF (dU 4 (eOp zCC (eOp zDu (eOp pD (aK 3) (eC (.int 48271))) (eC (.int 17))) (eC (.int 2147483647)))) sV)
abbrev kR:Sv:=(gF 2)
abbrev tV:Sv:=(bF (xA (rX (aK 0)) (gName 3) sU) kR)
def fN:Mir:=fn 2 5 (bF (zCv 2 (pC aNil)) tV)
abbrev zFR:Sv:=(jL (lF (aE (eOp zDz (aK 0) (aK 2)) (aE (eOp zDz (aK 1) (aK 2)) aNil))))
abbrev zFF:Sv:=(bF (sIf (dR (eOp oLt (aK 1) (eC (.int 0)))) (dU 2 (eUn zGO (aK 2))) sNext) zFR)
abbrev zGm:Sv:=(bF (dU 2 (bB cV (aE (aK 0) (aE (aK 1) aNil)))) zFF)
def gN:Mir:=fn 2 3 (bF (sIf (dR (eOp oEq (aK 1) (eC (.int 0)))) (jI "NoFraction" (aE (eC (.str "the bottom is nought")) aNil)) sNext) zGm)
def iT:Mir:=fn 2 2 (jL (eIf (dR (bB iM (aE (aK 0) (aE (aK 1) aNil)))) (aK 0) (aK 1)))
abbrev rQ:Sv:=(sIf (dR (bB iM (aE (eOp oIx (aK 3) (eC d_UP)) (aE (eOp oIx (aK 2) (eC d_UP)) aNil)))) (jI "BadLine" (aE (eC (.str "a y is less than the one ahead")) aNil)) sNext)
abbrev sP:Sv:=(bF (sIf (lI (dR (bB iM (aE (eOp oIx (aK 2) (eC d_ACROSS)) (aE (eOp oIx (aK 3) (eC d_ACROSS)) aNil))))) (jI "BadLine" (aE (eC (.str "an x is not greater than the one ahead")) aNil)) sNext) rQ)
abbrev sG:Sv:=(bF (dU 3 (eOp oIx (aK 0) (aK 1))) sP)
abbrev sZ:Sv:=(bF (dU 2 (eOp oIx (aK 0) (eOp wZ (aK 1) (eC (.int 1))))) sG)
abbrev sR:Sv:=(xA (zAK (aE (eC (.int 1)) (aE (eB kZ (aE (aK 0) aNil)) aNil))) (gName 1) sZ)
abbrev tG:Sv:=(bF (sIf (dR (eOp oNe (eOp oIx (aK 0) (eC (.int 0))) (lF (aE (eC fW) (aE (eC fW) aNil))))) (jI "BadLine" (aE (eC (.str "the first point is not nought and nought")) aNil)) sNext) sR)
def fH:Mir:=fn 1 4 (bF (sIf (dR (eOp oEq (eB kZ (aE (aK 0) aNil)) (eC (.int 0)))) (jI "BadLine" (aE (eC (.str "a line has a point")) aNil)) sNext) tG)
abbrev zCM:Sv:=(zR (bB bJ (aE (aK 0) (aE (aK 1) (aE (eB kZ (aE (aK 2) aNil)) aNil)))))
abbrev zCL:Sv:=(bF (zR (bB dD (aE (aK 2) aNil))) zCM)
def nH:Mir:=fn 3 3 (bF (zR (bB dE (aE (aK 0) aNil))) zCL)
abbrev pB:Sv:=(jL (eUn (rO aS) (aK 0)))
def cX:Mir:=fn 1 1 (bF (zR (bB dE (aE (aK 0) aNil))) pB)
abbrev sS:Sv:=(zBA 2 (bB bP (aE (aK 1) aNil)))
abbrev kT:Sv:=(bF (zGK 1 zBk (aK 3)) sS)
abbrev tM:Sv:=(gF 2)
abbrev sA:Sv:=(bF (xA (rX (aK 0)) (gName 3) kT) tM)
abbrev sM:Sv:=(bF (zCv 2 (pC (aE (eC fW) aNil))) sA)
def eE:Mir:=fn 1 4 (bF (dU 1 (eC (.int 0))) sM)
abbrev gC:Sv:=(sIf (tFrzB (dR (bB iM (aE (eOp oIx (aK 1) (eUn zGO (eC (.int 1)))) (aE (aK 2) aNil))))) (zBA 1 (aK 2)) sNext)
abbrev lW:Sv:=(gF 1)
abbrev lL:Sv:=(bF (xA (rX (aK 0)) (gName 2) gC) lW)
def cN:Mir:=fn 1 3 (bF (zCv 1 (fSl (aK 0) oN (oS (eC (.int 1))))) lL)
def dB:Mir:=fn 2 2 (jL (bB dL (aE (eOp wZ (eOp pD (eOp oIx (aK 0) (eC (.int 0))) (eOp oIx (aK 1) (eC (.int 1)))) (eOp pD (eOp oIx (aK 1) (eC (.int 0))) (eOp oIx (aK 0) (eC (.int 1))))) (aE (eOp pD (eOp oIx (aK 0) (eC (.int 1))) (eOp oIx (aK 1) (eC (.int 1)))) aNil))))
def eZ:Mir:=fn 2 2 (jL (bB dL (aE (eOp pD (eOp oIx (aK 0) (eC (.int 0))) (eOp oIx (aK 1) (eC (.int 0)))) (aE (eOp pD (eOp oIx (aK 0) (eC (.int 1))) (eOp oIx (aK 1) (eC (.int 1)))) aNil))))
abbrev lD:Sv:=(sIf (zAU (lI (dR (zGM "int" (aK 1)))) (dR (zGM "bool" (aK 1)))) (jL (eC (.bl false))) sNext)
abbrev lH:Sv:=(jL (zKQ (eOp oGt (eOp oIx (aK 0) (eC (.int 1))) (eC (.int 0))) (eOp oEq (bB dL (aE (eOp oIx (aK 0) (eC (.int 0))) (aE (eOp oIx (aK 0) (eC (.int 1))) aNil))) (aK 0))))
abbrev lK:Sv:=(bF (xA (rX (aK 0)) (gName 1) lD) lH)
def cB:Mir:=fn 1 2 (bF (sIf (zAU (lI (dR (zGM "tuple" (aK 0)))) (dR (eOp oNe (eB kZ (aE (aK 0) aNil)) (eC (.int 2))))) (jL (eC (.bl false))) sNext) lK)
def kW:Mir:=fn 2 2 (jL (bB gN (aE (eOp zDu (eOp pD (eOp oIx (aK 0) (eC (.int 0))) (eOp oIx (aK 1) (eC (.int 1)))) (eOp pD (eOp oIx (aK 1) (eC (.int 0))) (eOp oIx (aK 0) (eC (.int 1))))) (aE (eOp pD (eOp oIx (aK 0) (eC (.int 1))) (eOp oIx (aK 1) (eC (.int 1)))) aNil))))
def cY:Mir:=fn 2 2 (jL (bB gN (aE (eOp wZ (eOp pD (eOp oIx (aK 0) (eC (.int 0))) (eOp oIx (aK 1) (eC (.int 1)))) (eOp pD (eOp oIx (aK 1) (eC (.int 0))) (eOp oIx (aK 0) (eC (.int 1))))) (aE (eOp pD (eOp oIx (aK 0) (eC (.int 1))) (eOp oIx (aK 1) (eC (.int 1)))) aNil))))
def dH:Mir:=fn 2 2 (jL (bB gN (aE (eOp pD (eOp oIx (aK 0) (eC (.int 0))) (eOp oIx (aK 1) (eC (.int 0)))) (aE (eOp pD (eOp oIx (aK 0) (eC (.int 1))) (eOp oIx (aK 1) (eC (.int 1)))) aNil))))
def qY:Mir:=fn 2 2 (jL (bB gN (aE (eOp pD (eOp oIx (aK 0) (eC (.int 0))) (eOp oIx (aK 1) (eC (.int 1)))) (aE (eOp pD (eOp oIx (aK 0) (eC (.int 1))) (eOp oIx (aK 1) (eC (.int 0)))) aNil))))
def cZ:Mir:=fn 2 2 (jO (oH (zIC (aE (aK 1) (aE (aK 0) aNil))) (bB gN (aE (aK 2) (aE (aK 3) aNil)))))
abbrev sO:Sv:=(dU 3 (eOp oEq (bB eZ (aE (aK 5) (aE (aK 6) aNil))) (bB eZ (aE (aK 7) (aE (aK 4) aNil)))))
abbrev sE:Sv:=(bF (dU 7 (bB dB (aE (eOp oIx (eOp oIx (aK 0) (eOp zDu (aK 2) (eC (.int 1)))) (eC (.int 1))) (aE (eOp oIx (eOp oIx (aK 0) (aK 2)) (eC (.int 1))) aNil)))) sO)
abbrev sL:Sv:=(bF (dU 6 (bB dB (aE (eOp oIx (eOp oIx (aK 0) (eOp zDu (aK 2) (eC (.int 1)))) (eC (.int 0))) (aE (eOp oIx (eOp oIx (aK 0) (aK 2)) (eC (.int 0))) aNil)))) sE)
abbrev tH:Sv:=(bF (dU 5 (bB dB (aE (eOp oIx (eOp oIx (aK 0) (aK 2)) (eC (.int 1))) (aE (eOp oIx (eOp oIx (aK 0) (eOp wZ (aK 2) (eC (.int 1)))) (eC (.int 1))) aNil)))) sL)
abbrev eK:Sv:=(sIf (lI (dR (aK 3))) (zBA 1 (eOp oIx (aK 0) (aK 2))) sNext)
abbrev sD:Sv:=(bF (sIf (dR (eOp oLt (eOp zDu (aK 2) (eC (.int 1))) (eB kZ (aE (aK 0) aNil)))) (bF (dU 4 (bB dB (aE (eOp oIx (eOp oIx (aK 0) (aK 2)) (eC (.int 0))) (aE (eOp oIx (eOp oIx (aK 0) (eOp wZ (aK 2) (eC (.int 1)))) (eC (.int 0))) aNil)))) tH) sNext) eK)
abbrev sC:Sv:=(bF (dU 3 (eC (.bl false))) sD)
abbrev pX:Sv:=(jL (eB zHb (aE (aK 1) aNil)))
abbrev tO:Sv:=(bF (xA (zAK (aE (eC (.int 1)) (aE (eB kZ (aE (aK 0) aNil)) aNil))) (gName 2) sC) pX)
def dF:Mir:=fn 1 8 (bF (zCv 1 (pC (aE (eOp oIx (aK 0) (eC (.int 0))) aNil))) tO)
abbrev sN:Sv:=(jL (eOp oEq (bB dH (aE (aK 3) (aE (aK 6) aNil))) (bB dH (aE (aK 4) (aE (aK 5) aNil)))))
abbrev sK:Sv:=(bF (dU 6 (bB cY (aE (eOp oIx (aK 2) (eC d_ACROSS)) (aE (eOp oIx (aK 1) (eC d_ACROSS)) aNil)))) sN)
abbrev tQ:Sv:=(bF (dU 5 (bB cY (aE (eOp oIx (aK 1) (eC d_ACROSS)) (aE (eOp oIx (aK 0) (eC d_ACROSS)) aNil)))) sK)
abbrev rY:Sv:=(bF (dU 4 (bB cY (aE (eOp oIx (aK 2) (eC d_UP)) (aE (eOp oIx (aK 1) (eC d_UP)) aNil)))) tQ)
def fM:Mir:=fn 3 7 (bF (dU 3 (bB cY (aE (eOp oIx (aK 1) (eC d_UP)) (aE (eOp oIx (aK 0) (eC d_UP)) aNil)))) rY)
abbrev vA:Sv:=(dU 2 (bB cY (aE (aK 2) (aE (aK 5) aNil))))
abbrev wH:Sv:=(bF (zBA 3 (aK 5)) vA)
abbrev mM:Sv:=(bF (dU 5 (bB iT (aE (aK 2) (aE (bB bP (aE (aK 4) aNil)) aNil)))) wH)
abbrev wP:Sv:=(gF 3)
abbrev uU:Sv:=(bF (xA (rX (aK 0)) (gName 4) mM) wP)
abbrev uS:Sv:=(bF (zCv 3 (pC aNil)) uU)
def fE:Mir:=fn 2 6 (bF (dU 2 (aK 1)) uS)
abbrev sX:Sv:=(zGK 4 wZ (eOp oIx (aK 0) (aK 6)))
abbrev sQ:Sv:=(bF (dU 3 (zLB (bB cY (aE (aK 3) (aE (eOp oIx (aK 5) (aK 6)) aNil))))) sX)
abbrev tJ:Sv:=(bF (zLD 5 (aK 6) (bB iT (aE (aK 7) (aE (bB bP (aE (eOp oIx (aK 1) (aK 6)) aNil)) aNil)))) sQ)
abbrev bO:Sv:=(bF (dU 7 (bB qY (aE (bB dH (aE (aK 3) (aE (bB bP (aE (eOp oIx (aK 0) (aK 6)) aNil)) aNil))) (aE (bB bP (aE (aK 4) aNil)) aNil)))) tJ)
abbrev hZ:Sv:=(gF 5)
abbrev kU:Sv:=(zDv (aE (eF (eI cZ (aE (aK 0) (aE (aK 1) aNil)))) aNil) gQ (gName 6) bO hZ)
abbrev tI:Sv:=(bF (zCv 5 (zHS (pC (aE (eC fW) aNil)) (eB kZ (aE (aK 1) aNil)))) kU)
abbrev sW:Sv:=(bF (dU 4 (eB xI (aE (aK 0) aNil))) tI)
def cP:Mir:=fn 3 8 (bF (dU 3 (aK 2)) sW)
abbrev sI:Sv:=(jO (oA (rX (aK 0)) rM (bB dH (aE (aK 3) (aE (bB bP (aE (aK 4) aNil)) aNil)))))
abbrev sJ:Sv:=(bF (dU 3 (bB qY (aE (aK 1) (aE (bB bP (aE (aK 2) aNil)) aNil)))) sI)
abbrev tN:Sv:=(bF (sIf (dR (eOp oEq (aK 2) (eC (.int 0)))) (jO (zHS (pC (aE (eC fW) aNil)) (eB kZ (aE (aK 0) aNil)))) sNext) sJ)
def eG:Mir:=fn 2 4 (bF (dU 2 (eB xI (aE (aK 0) aNil))) tN)
abbrev rA:Sv:=(zGK 3 wZ (eOp oIx (aK 0) (aK 6)))
abbrev pZ:Sv:=(bF (zGK 2 zBk (eOp oIx (aK 1) (aK 6))) rA)
abbrev eQ:Sv:=(bF (zBA 5 (bB kW (aE (bB bP (aE (aK 2) aNil)) (aE (bB dH (aE (eOp oIx (aK 4) (aK 6)) (aE (bB bP (aE (aK 3) aNil)) aNil))) aNil)))) pZ)
abbrev jW:Sv:=(gF 5)
abbrev jS:Sv:=(zDv (aE (aK 4) aNil) gQ (gName 6) eQ jW)
abbrev qC:Sv:=(bF (zCv 5 (pC (aE (eC fW) aNil))) jS)
abbrev qU:Sv:=(bF (dU 4 (eF (eI cZ (aE (aK 0) (aE (aK 1) aNil))))) qC)
abbrev rW:Sv:=(bF (dU 3 (eB xI (aE (aK 0) aNil))) qU)
def cT:Mir:=fn 2 7 (bF (dU 2 (eC (.int 0))) rW)
def fG:Mir:=fn 2 2 (jO (oA (zAQ (aK 0)) rM (bB cY (aE (aK 1) (aE (aK 2) aNil)))))
abbrev xQ:Sv:=(sIf (zAU (lI (dR (bB cB (aE (eOp oIx (aK 1) (eC (.int 0))) aNil)))) (lI (dR (bB cB (aE (eOp oIx (aK 1) (eC (.int 1))) aNil))))) (jL (eC (.bl false))) sNext)
abbrev xX:Sv:=(bF (sIf (zAU (lI (dR (zGM "tuple" (aK 1)))) (dR (eOp oNe (eB kZ (aE (aK 1) aNil)) (eC (.int 2))))) (jL (eC (.bl false))) sNext) xQ)
abbrev yI:Sv:=(sIf (zAU (lI (dR (bB gA (aE (eOp oIx (eOp oIx (aK 0) (eOp wZ (aK 2) (eC (.int 1)))) (eC (.int 0))) (aE (eOp oIx (eOp oIx (aK 0) (aK 2)) (eC (.int 0))) aNil))))) (dR (bB gA (aE (eOp oIx (eOp oIx (aK 0) (aK 2)) (eC (.int 1))) (aE (eOp oIx (eOp oIx (aK 0) (eOp wZ (aK 2) (eC (.int 1)))) (eC (.int 1))) aNil))))) (jL (eC (.bl false))) sNext)
abbrev wQ:Sv:=(jL (eOp oEq (aK 0) (bB dF (aE (aK 0) aNil))))
abbrev yW:Sv:=(bF (xA (zAK (aE (eC (.int 1)) (aE (eB kZ (aE (aK 0) aNil)) aNil))) (gName 2) yI) wQ)
abbrev zN:Sv:=(bF (xA (rX (aK 0)) (gName 1) xX) yW)
def iK:Mir:=fn 1 3 (bF (sIf (zAU (lI (dR (zGM "tuple" (aK 0)))) (zAU (dR (eOp oLt (eB kZ (aE (aK 0) aNil)) (eC (.int 1)))) (dR (eOp oNe (eOp oIx (aK 0) (eC (.int 0))) (lF (aE (lF (aE (eC (.int 0)) (aE (eC (.int 1)) aNil))) (aE (lF (aE (eC (.int 0)) (aE (eC (.int 1)) aNil))) aNil))))))) (jL (eC (.bl false))) sNext) zN)
abbrev gO:Sv:=(sIf (tFrzB (zAU (dR (eOp oEq (aK 1) (eF (pC aNil)))) (dR (eOp oNe (aK 2) (eOp oIx (aK 1) (eUn zGO (eC (.int 1)))))))) (zBA 1 (aK 2)) sNext)
abbrev pQ:Sv:=(jL (bB dF (aE (aK 1) aNil)))
abbrev pS:Sv:=(bF (xA (rX (aK 0)) (gName 2) gO) pQ)
def cI:Mir:=fn 1 3 (bF (zCv 1 (pC aNil)) pS)
abbrev qZ:Sv:=(zBA 1 (aK 2))
abbrev zAp:Sv:=(bF (sIf (tFrzB (zDY (dR (eOp oGt (eB kZ (aE (aK 1) aNil)) (eC (.int 1)))) (dR (bB fM (aE (eOp oIx (aK 1) (eUn zGO (eC (.int 2)))) (aE (eOp oIx (aK 1) (eUn zGO (eC (.int 1)))) (aE (aK 2) aNil))))))) (zJJ 1) sNext) qZ)
abbrev zAM:Sv:=(jL (eB zHb (aE (aK 1) aNil)))
abbrev zAt:Sv:=(bF (xA (rX (aK 0)) (gName 2) zAp) zAM)
abbrev zAi:Sv:=(bF (zCv 1 (pC aNil)) zAt)
def kD:Mir:=fn 1 3 (bF (zR (bB fH (aE (aK 0) aNil))) zAi)
abbrev tR:Sv:=(jO (oA (rX (eF (eI cP (aE (aK 2) (aE (aK 0) (aE (bB kW (aE (aK 1) (aE (aK 1) aNil))) aNil)))))) rM (bB dH (aE (aK 3) (aE (eC d_HALF) aNil)))))
def eH:Mir:=fn 2 3 (bF (dU 2 (eF (zHS (pC (aE (eC (.int 1)) aNil)) (eB kZ (aE (aK 0) aNil))))) tR)
abbrev pF:Sv:=(sIf (zAU (lI (dR (bB iK (aE (aK 2) aNil)))) (dR (eOp oNe (eOp oIx (aK 2) (eUn zGO (eC (.int 1)))) (lF (aE (lF (aE (eB xI (aE (aK 1) aNil)) (aE (eC (.int 1)) aNil))) (aE (lF (aE (aK 3) (aE (eC (.int 1)) aNil))) aNil)))))) (jL (eC (.bl false))) sNext)
abbrev jM:Sv:=(jL (eC (.bl true)))
abbrev oX:Sv:=(bF (xA (zIC (aE (aK 0) (aE (aK 1) aNil))) (zGW (sT (gName 2) (sT (gName 3) zGA))) pF) jM)
def dP:Mir:=fn 2 4 (bF (sIf (zAU (lI (dR (zGM "list" (aK 0)))) (dR (eOp oNe (eB kZ (aE (aK 0) aNil)) (eB kZ (aE (aK 1) aNil))))) (jL (eC (.bl false))) sNext) oX)
abbrev rL:Sv:=(dU 2 (eOp zDu (aK 2) (aK 3)))
abbrev rH:Sv:=(bF (zBA 1 (bB cI (aE (eF (oH (rX (aK 4)) (lF (aE (lF (aE (aK 5) (aE (eC (.int 1)) aNil))) (aE (lF (aE (aK 6) (aE (eC (.int 1)) aNil))) aNil))))) aNil))) rL)
abbrev qR:Sv:=(bF (dU 4 (eF (pC (aE (lF (aE (eC (.int 0)) (aE (eC (.int 0)) aNil))) (aE (lF (aE (aK 2) (aE (eC (.int 0)) aNil))) (aE (lF (aE (eOp zDu (aK 2) (aK 3)) (aE (aK 3) aNil))) (aE (lF (aE (eB xI (aE (aK 0) aNil)) (aE (aK 3) aNil))) aNil))))))) rH)
abbrev qV:Sv:=(gF 1)
abbrev zAB:Sv:=(bF (xA (rX (aK 0)) (gName 3) qR) qV)
abbrev zAz:Sv:=(bF (dU 2 (eC (.int 0))) zAB)
def eO:Mir:=fn 1 5 (bF (zCv 1 (pC aNil)) zAz)
def jR:Mir:=fn 3 3 (jL (bB kD (aE (eF (oH (zIC (aE (aK 0) (aE (aK 1) aNil))) (lF (aE (aK 3) (aE (eOp oIx (aK 4) (aK 2)) aNil))))) aNil)))
abbrev tE (r:Mir):Sv:=(jO (zMr (aK 4) (eF (eI fG (aE (aK 4) (aE (aK 3) aNil))))))
abbrev tP (r:Mir):Sv:=(jO (eI fG (aE (eF (eI r (aE (bB cX (aE (aK 0) aNil)) (aE (aK 1) (aE (aK 2) aNil))))) (aE (aK 3) aNil))))
abbrev vW (r:Mir):Sv:=(bF (sIf (dR (eOp oEq (aK 0) (eC (.str "half")))) (bF (dU 4 (eF (oA (rX (eF (eI cT (aE (eF (zHS (pC (aE (eC (.int 1)) aNil)) (eB kZ (aE (aK 2) aNil)))) (aE (aK 2) aNil))))) rM (bB dH (aE (aK 5) (aE (eC d_HALF) aNil)))))) (tE r)) sNext) (tP r))
abbrev vI (r:Mir):Sv:=(bF (sIf (dR (eOp oEq (aK 0) (eC (.str "part")))) (jO (pC (aE (eC fW) (aE (aK 3) aNil)))) sNext) (vW r))
abbrev vO (r:Mir):Sv:=(bF (sIf (dR (eOp oEq (aK 0) (eC (.str "even")))) (jO (eI cT (aE (aK 1) (aE (aK 2) aNil)))) sNext) (vI r))
abbrev vZ (r:Mir):Sv:=(bF (sIf (dR (eOp oEq (aK 0) (eC (.str "row")))) (jO (eI eE (aE (aK 2) aNil))) sNext) (vO r))
def bT (r:Mir):Mir:=fn 3 5 (bF (dU 3 (bB bP (aE (eB xI (aE (aK 2) aNil)) aNil))) (vZ r))
def bD:Nat->Mir
 | 0=>fn 3 5 sNo
 | n+1=>bT (bD n)
abbrev mJ (r:Mir):Sv:=(jO (oH (zIC (aE (aK 2) (aE (aK 5) aNil))) (bB cY (aE (bB bP (aE (aK 6) aNil)) (aE (aK 7) aNil)))))
abbrev mG (r:Mir):Sv:=(bF (dU 5 (eF (eI r (aE (eUn (rO aS) (aK 0)) (aE (aK 1) (aE (aK 2) (aE (bB cY (aE (aK 4) (aE (aK 3) aNil))) aNil))))))) (mJ r))
abbrev nL (r:Mir):Sv:=(bF (sIf (zDY (dR (eOp oEq (aK 0) (eC (.str "half")))) (lI (dR (bB iM (aE (aK 4) (aE (bB kW (aE (aK 3) (aE (aK 3) aNil))) aNil)))))) (jO (eI eH (aE (aK 2) (aE (aK 3) aNil)))) sNext) (mG r))
abbrev nV (r:Mir):Sv:=(bF (sIf (dR (eOp oEq (aK 0) (eC (.str "part")))) (jO (eI eG (aE (aK 2) (aE (aK 3) aNil)))) sNext) (nL r))
abbrev nJ (r:Mir):Sv:=(bF (sIf (dR (eOp oEq (aK 0) (eC (.str "even")))) (jO (eI cP (aE (aK 1) (aE (aK 2) (aE (aK 3) aNil))))) sNext) (nV r))
abbrev oB (r:Mir):Sv:=(bF (sIf (dR (eOp oEq (aK 0) (eC (.str "row")))) (jO (eI fE (aE (aK 2) (aE (aK 3) aNil)))) sNext) (nJ r))
def aP (r:Mir):Mir:=fn 4 6 (bF (dU 4 (bB bP (aE (eB xI (aE (aK 2) aNil)) aNil))) (oB r))
def aN:Nat->Mir
 | 0=>fn 4 6 sNo
 | n+1=>aP (aN n)
abbrev vX:Sv:=(jO (oA (zDV (aE (eB kZ (aE (aK 2) aNil)) aNil)) rM (bB jR (aE (aK 3) (aE (aK 4) (aE (aK 5) aNil))))))
abbrev wE:Sv:=(bF (dU 4 (eF (oA (rX (aK 3)) rM (eF (eI (aN 2) (aE (aK 0) (aE (aK 1) (aE (aK 2) (aE (aK 5) aNil))))))))) vX)
abbrev uT:Sv:=(bF (dU 3 (eF (eI cN (aE (eF (eI (bD 2) (aE (aK 0) (aE (aK 1) (aE (aK 2) aNil))))) aNil)))) wE)
def bR:Mir:=fn 3 5 (bF (zR (bB nH (aE (aK 0) (aE (aK 1) (aE (aK 2) aNil))))) uT)
abbrev zGd:Sv:=(jL (zKQ (eOp oEq (eF (zGp (aE (aK 3) aNil))) (aK 2)) (eOp oEq (eF (eI bR (aE (eC (.str "row")) (aE (lF aNil) (aE (aK 3) aNil))))) (eF (eI eO (aE (aK 2) aNil))))))
abbrev zFZ:Sv:=(bF (zBA 4 (eC (.int 1))) zGd)
abbrev zFv:Sv:=(bF (sIf (dR (eOp oNe (aK 6) (eF (oA (rX (aK 2)) rM (bB cI (aE (eF (pC (aE (aK 8) (aE (lF (aE (lF (aE (eB xI (aE (aK 2) aNil)) (aE (eC (.int 1)) aNil))) (aE (lF (aE (aK 9) (aE (eC (.int 1)) aNil))) aNil))) aNil)))) aNil)))))) (jL (eC (.bl false))) sNext) zFZ)
abbrev zFr:Sv:=(bF (dU 8 (lF (aE (lF (aE (eC (.int 0)) (aE (eC (.int 1)) aNil))) (aE (lF (aE (eC (.int 0)) (aE (eC (.int 1)) aNil))) aNil)))) zFv)
abbrev zBq:Sv:=(bF (sIf (tFrzB (zAU (dR (eOp oNe (aK 4) (eF (eI eO (aE (aK 2) aNil))))) (dR (eOp oNe (aK 5) (eF (zAQ (eF (eI eO (aE (eF (zAQ (aK 2))) aNil))))))))) (jL (eC (.bl false))) sNext) zFr)
abbrev zBs:Sv:=(bF (zFd 7 (rX (eF (pC (aE (aK 4) (aE (aK 5) (aE (aK 6) aNil)))))) (lI (dR (bB dP (aE (aK 7) (aE (aK 2) aNil)))))) zBq)
abbrev zBY:Sv:=(bF (dU 6 (eF (eI bR (aE (eC (.str "part")) (aE (eF (pC aNil)) (aE (aK 3) aNil)))))) zBs)
abbrev zDd:Sv:=(bF (dU 5 (eF (eI bR (aE (eC (.str "back")) (aE (lF aNil) (aE (aK 3) aNil)))))) zBY)
abbrev vR:Sv:=(bF (zCv 4 (eI bR (aE (eC (.str "row")) (aE (eF (pC aNil)) (aE (aK 3) aNil))))) zDd)
abbrev zEE:Sv:=(bF (sIf (dR (eOp oEq (eOp zCC (eOp zDz (aK 1) (eC (.int 5))) (eC (.int 2))) (eC (.int 1)))) (dU 3 (eB zHb (aE (aK 2) aNil))) sNext) vR)
abbrev vT:Sv:=(bF (dU 3 (eF (zGp (aE (aK 2) aNil)))) zEE)
abbrev zDm:Sv:=(bF (sIf (dR (eOp oEq (aK 2) (eF (pC aNil)))) (dU 2 (eF (pC (aE (eOp zCC (aK 1) (eC (.int 5))) aNil)))) sNext) vT)
abbrev zEk:Sv:=(bF (dU 2 (eF (eI fN (aE (eF (fSl (aK 0) (oS (eC (.int 1))) (oS (eC (.int 13))))) (aE (aK 1) aNil))))) zDm)
def zIk:Mir:=fn 1 9 (bF (dU 1 (bB eR (aE (aK 0) (aE (eC (.int 0)) aNil)))) zEk)
end Lw
namespace Lw
open L3 PySem Fr Fq Ln
theorem c_NOUGHT:fW=dq 0:=rfl
local macro_rules | `(tactic| walk_at "ev")=>do
 let ids:Array (Lean.TSyntax `term):=(("c_NOUGHT d_ACROSS d_UP d_WEIGHTED d_HALF fn_at iZip_at fComp2_at chO_s oEq_s oNe_s oTabNot_s L3.start sSeq_at seqF_nx seqF_ret sSet_at setF sOwn_at ownF sRet_at retF sRetF_at retFF sRetOwn_at retS sRetN sIf_at ifF_t ifF_f sNext sNo sDrop_at dropF dropG eVar_at varS eC eOp_at opF eUn eCall_at callF rtF eB eTup_at tupF aCons_at consF consG aNil tVal_at blF tNotB_at notF tAndB_at tandF_t tandF_f tOrB_at torF_t torF_f eAnd_at andF_t andF_f eOr_at orF_t orF_f eIf_at eifF_t eifF_f eF_at efF fLst_at fLstF fCall_at fcallF rtFF fList_at fListF_l fListF_t fComp_at fRep_at repF fCat_at catF catG eFrz_at frzF oN oS_at oSF fSl_at fSlF fSlG fSlH isNon sApp_at appS appF sAug_at augS augF setG sUnp_at unpF nxF bSum_l bSum_t gTup_at gtF_t gCons_at gNil_at gName sFor_at forF iRevL_at revL_l iSeq_at seqD_l seqD_t iRng1_at iRng2_at sFrz tFrzB okb erb Rt.d fin oAdd_i oAddI_i oSub_i oMul_i oDiv_i oMod_i oPow_i oEq_i oNe_i oLt_i oLe_i oGt_i oGe_i oIx_tc sPop_at popS dp_mk ty_dp len_dp ix_dp0 ix_dp1 dep_dp noL_dp oEq_dp oNe_dp noLs_dps oNeg_i oNot_b bAbs_i bLen_t bLen_l bMin_i bTup_t bTup_l eIsT_at isTF isT ty_i ty_t ty_l ty_b ty_s ty_n ofO_some atD sRaise_at raiseF Sl.frz noErr dep depS noL noLs List.map_cons List.map_nil List.cons_append List.nil_append List.append_nil List.replicate List.length_cons List.length_nil List.getElem?_cons_zero List.getElem?_cons_succ List.set_cons_zero List.set_cons_succ Nat.reduceAdd Nat.reduceSub Nat.reduceLeDiff Nat.reduceEqDiff Nat.zero_add Nat.sub_self Nat.max_self Nat.zero_le if_true ite_true ite_false if_false Bool.false_eq_true Bool.not_true Bool.not_false reduceIte ite_self Int.toNat_zero Int.reduceToNat Int.reduceLE Int.reduceLT Int.le_refl decide_true decide_false Bool.or_true Bool.or_false Bool.true_or Bool.false_or Bool.and_true Bool.true_and Bool.and_false Bool.false_and String.reduceBEq String.reduceEq beq_self_eq_true ix_dq0 ix_dq1 ty_dq dep_dq noL_dq len_dq eq_dq oEq_dq oNe_dq List.length_map okDiv_lit okMul_litr okMul_litl okp30 p10 fdiv_pos fmod_pos Int.reduceEq Int.reduceNeg p10ne p10ne2 p10pos2 Int.reduceMul Int.reduceAdd Int.reduceSub Int.reduceDiv Int.reduceMod eqD Nat.reduceLT Nat.reducePow ne_eq not_true_eq_false not_false_eq_true".splitOn " ").map fun s=>⟨Lean.mkIdent s.toName⟩).toArray
 `(tactic| simp only [$[$ids:term],*])
theorem pE (t b:Int):cV [.int t,.int b]=.ok (.v (.int (Int.gcd t b:Int))):=by
 unfold cV
 walk_at "ev"
 refine zHe (fun ρ=>∃ (x y:Int) (r:Sl),ρ=[.val (.int x),.val (.int y),r]/\0<=x/\0<=y/\Int.gcd x y=Int.gcd t b) (fun ρ=>(slI 1 ρ).toNat)
  (fun r=>(r.bind (zHd (jL (aK 0)))).bind fin=.ok (.v (.int (Int.gcd t b:Int)))) ⟨_,_,_,rfl,by omega,by omega,by simp [Int.gcd]⟩ ?_
 rintro ρ ⟨x,y,r,rfl,hx,hy,hg⟩
 by_cases h:y=0
 ·subst h
  refine .inl ⟨rfl,?_⟩
  have e:x=(Int.gcd t b:Int):=by
   rw [Int.gcd_zero_right] at hg
   omega
  rw [<-e]
  rfl
 ·refine .inr ⟨?_,[.val (.int y),.val (.int (x.fmod y)),.val (.int (x.fmod y))],?_,⟨y,x.fmod y,_,rfl,hy,?_,?_⟩,?_⟩
  ·walk_at "ev"
   rw [decide_eq_false h];rfl
  ·walk_at "ev"
   rw [oMod_i h]
   walk_at "ev"
  ·rw [zAC _ hy];exact Int.emod_nonneg _ h
  ·rw [zAC _ hy];exact (Fq.zBR hx (by omega)).trans hg
  ·have:=Int.emod_lt_of_pos x (show 0 < y by omega)
   rw [zAC _ hy]
   show (x % y).toNat < y.toNat
   omega
theorem zJu {t b:Int} (hb:b≠0):(dv t b).natAbs<=b.natAbs:=Nat.le_of_dvd (by omega) (Int.natAbs_dvd_natAbs.mpr (zBX t b))
theorem zZ {t b:Int} {n:Nat} (hb:b≠0) (hn:b.natAbs < 2^n) (h:n<=8999):gN [.int t,.int b]=.ok (.v (dq (Rat.divInt t b))):=by
 have hd:jP (dv t b)=true:=pL (zKz hb) (Nat.lt_of_le_of_lt (zJu hb) hn) h
 have e0:decide (b=0)=false:=decide_eq_false hb
 unfold gN
 walk_at "ev"
 rw [e0]
 walk_at "ev"
 rw [pE]
 walk_at "ev"
 by_cases c:b < 0
 ·have e:-(Int.gcd t b:Int)=dv t b:=by unfold dv;rw [if_pos c]
  rw [decide_eq_true c]
  walk_at "ev"
  rw [e,oDiv_i hd]
  walk_at "ev"
  rw [oDiv_i hd]
  walk_at "ev"
  rw [uC hb,tY hb]
  rfl
 ·have e:(Int.gcd t b:Int)=dv t b:=by unfold dv;rw [if_neg c]
  rw [decide_eq_false c]
  walk_at "ev"
  rw [e,oDiv_i hd]
  walk_at "ev"
  rw [oDiv_i hd]
  walk_at "ev"
  rw [uC hb,tY hb]
  rfl
theorem zLL (t:Int):gN [.int t,.int 0]=.err "NoFraction" := by
 unfold gN
 walk_at "ev"
theorem zCl {p q:Rat} {m n:Nat} (hp:Sz m p) (hq:Sz n q) (h:m+n<=8999):kW [dq p,dq q]=.ok (.v (dq (p+q))):=by
 unfold kW
 walk_at "ev"
 rw [oMul_i (bN hp.1 hq.d (by omega))]
 walk_at "ev"
 rw [oMul_i (bN hq.1 hp.d (by omega))]
 walk_at "ev"
 rw [oMul_i (bN hp.d hq.d (by omega))]
 walk_at "ev"
 rw [zZ (Int.mul_ne_zero (dA p) (dA q)) (eA hp.d hq.d) h,zHm]
 walk_at "ev"
theorem fB {p q:Rat} {m n:Nat} (hp:Sz m p) (hq:Sz n q) (h:m+n<=8999):cY [dq p,dq q]=.ok (.v (dq (p - q))):=by
 unfold cY
 walk_at "ev"
 rw [oMul_i (bN hp.1 hq.d (by omega))]
 walk_at "ev"
 rw [oMul_i (bN hq.1 hp.d (by omega))]
 walk_at "ev"
 rw [oMul_i (bN hp.d hq.d (by omega))]
 walk_at "ev"
 rw [zZ (Int.mul_ne_zero (dA p) (dA q)) (eA hp.d hq.d) h,zEB]
 walk_at "ev"
theorem lC {p q:Rat} {m n:Nat} (hp:Sz m p) (hq:Sz n q) (h:m+n<=8999):dH [dq p,dq q]=.ok (.v (dq (p * q))):=by
 unfold dH
 walk_at "ev"
 rw [oMul_i (bN hp.1 hq.1 (by omega))]
 walk_at "ev"
 rw [oMul_i (bN hp.d hq.d (by omega))]
 walk_at "ev"
 rw [zZ (Int.mul_ne_zero (dA p) (dA q)) (eA hp.d hq.d) h,zDs]
 walk_at "ev"
theorem zHa {p q:Rat} {m n:Nat} (hp:Sz m p) (hq:Sz n q) (h0:q≠0) (h:m+n<=8999):qY [dq p,dq q]=.ok (.v (dq (p / q))):=by
 unfold qY
 walk_at "ev"
 rw [oMul_i (bN hp.1 hq.d (by omega))]
 walk_at "ev"
 rw [oMul_i (bN hp.d hq.1 (by omega))]
 walk_at "ev"
 rw [zZ (Int.mul_ne_zero (dA p) (zHj.mpr h0)) (eA hp.d hq.1) h,zDM]
 walk_at "ev"
theorem qD {p q:Rat} {m n:Nat} (hp:Sz m p) (hq:Sz n q) (h:m+n<=99999):iM [dq p,dq q]=.ok (.v (.bl (decide (p < q)))):=by
 unfold iM
 walk_at "ev"
 rw [oMul_i (bN hp.1 hq.d (by omega))]
 walk_at "ev"
 rw [oMul_i (bN hq.1 hp.d (by omega))]
 walk_at "ev"
 simp only [lt_iff]
def mn (a b:Rat):Rat:=if a < b then a else b
def ps0 (x:Rat):Rat:=if x < 0 then 0 else x
def gH:List Int->Int->Rat->List Rat
 | [],_,_=>[]
 | c::r,a,q=>mn (ps0 (q - (a:Rat))) (c:Rat)::gH r (a+c) q
theorem xD:∀ (cs:List Int) (a:Int) (q:Rat),(gH cs a q).length=cs.length
 | [],_,_=>rfl
 | c::r,a,q=>by simp only [gH,List.length_cons,xD r]
theorem zHG {q:Rat} {a c:Int} (h:0<=c):ps0 (q - (a:Rat)) - mn (ps0 (q - (a:Rat))) (c:Rat)=ps0 (q - ((a+c:Int):Rat)):=by
 have h':(0:Rat)<=(c:Rat):=by exact_mod_cast h
 rw [Rat.intCast_add]
 unfold ps0 mn
 grind
theorem bZ {n:Nat} {k:Int} (h:k.natAbs < 2^n) (h0:0 < n):Sz n (k:Rat):=by
 refine ⟨h,?_⟩
 show 1 < 2^n
 exact Nat.one_lt_two_pow (by omega)
theorem zKw {n:Nat} {q:Rat} (h:Sz n q) (h0:0 < n):Sz n (ps0 q):=by
 unfold ps0
 split
 ·exact bZ (k:=0) (Nat.two_pow_pos n) h0
 ·exact h
theorem zJh {n:Nat} {p q:Rat} (h:Sz n p) (h':Sz n q):Sz n (mn p q):=by
 unfold mn
 split
 ·exact h
 ·exact h'
theorem bW (k:Int):bP [.int k]=.ok (.v (dq (k:Rat))):=by
 unfold bP
 walk_at "ev"
 rw [zKU]
theorem zBr {p q:Rat} {m n:Nat} (hp:Sz m p) (hq:Sz n q) (h:m+n<=99999):iT [dq p,dq q]=.ok (.v (dq (mn p q))):=by
 unfold iT
 walk_at "ev"
 rw [qD hp hq h]
 walk_at "ev"
 unfold mn
 by_cases c:p < q
 ·rw [decide_eq_true c,if_pos c]
  walk_at "ev"
 ·rw [decide_eq_false c,if_neg c]
  walk_at "ev"
structure Cl (cs:List Int):Prop where
 nn:∀ c∈cs,0<=c
 up:∀ c∈cs,c < 10^30
 lo:1<=cs.length
 hi:cs.length<=12
theorem zHo:∀ {cs:List Int},(∀ c∈cs,0<=c)->(∀ c∈cs,c < 10^30)->0<=cs.sum/\cs.sum<=cs.length * 10^30
 | [],_,_=>by decide
 | c::r,h,h'=>by
  have ih:=zHo (fun x hx=>h x (List.mem_cons_of_mem _ hx)) fun x hx=>h' x (List.mem_cons_of_mem _ hx)
  have a:=h c List.mem_cons_self
  have b:=h' c List.mem_cons_self
  rw [List.sum_cons,List.length_cons]
  refine ⟨by omega,?_⟩
  have:((r.length+1:Nat):Int) * 10^30=(r.length:Int) * 10^30+10^30:=by rw [Int.natCast_add,Int.add_mul];rfl
  omega
theorem Cl.sum {cs:List Int} (h:Cl cs):0<=cs.sum/\cs.sum < 2^104:=by
 have a:=zHo h.nn h.up
 have b:=h.hi
 refine ⟨a.1,?_⟩
 omega
structure Haul (m:Nat) (q:Rat) (W:Int):Prop where
 nn:0<=q
 up:q<=(W:Rat)
 sz:Sz m q
theorem zBU {d:D} {q:Rat} {m:Nat} (hm:m<=3000) (hq:Sz m q):∀ (cs:List Int) (a:Int) (acc:List D) (s t:Sl),(∀ c∈cs,0<=c)->(∀ c∈cs,c < 10^30)->0<=a->a+cs.length * 10^30 < 2^110->acc.length+cs.length<=100->
  ∃ l' s' t',fP (gName 4) mM (cs.map D.int) [.val d,.val (dq q),.val (dq (ps0 (q - (a:Rat)))),.own acc,s,t]=.ok (.nx [.val d,.val (dq q),l',.own (acc++(gH cs a q).map dq),s',t'])
 | [],a,acc,s,t,_,_,_,_,_=>⟨.val (dq (ps0 (q - (a:Rat)))),s,t,by rw [List.map_nil,fP];simp [gH]⟩
 | c::r,a,acc,s,t,h1,h2,h3,h4,h5=>by
  have c0:=h1 c List.mem_cons_self
  have c1:=h2 c List.mem_cons_self
  rw [List.length_cons] at h4 h5
  have e4:((r.length+1:Nat):Int) * 10^30=(r.length:Int) * 10^30+10^30:=by rw [Int.natCast_add,Int.add_mul];rfl
  have r0:0<=(r.length:Int) * 10^30:=Int.mul_nonneg (by omega) (by decide)
  have zl:Sz (m+111) (ps0 (q - (a:Rat))):=zKw (hq.sub (bZ (n:=110) (by omega) (by decide))) (by omega)
  have zc:Sz (m+111) (c:Rat):=Sz.mono (m:=110) (bZ (by omega) (by decide)) (by omega)
  obtain ⟨l',s',t',e⟩:=zBU hm hq r (a+c) (acc++[dq (mn (ps0 (q - (a:Rat))) (c:Rat))]) (.val (.int c)) (.val (dq (mn (ps0 (q - (a:Rat))) (c:Rat)))) (fun x hx=>h1 x (List.mem_cons_of_mem _ hx)) (fun x hx=>h2 x (List.mem_cons_of_mem _ hx)) (by omega) (by omega) (by rw [List.length_append,List.length_singleton];omega)
  refine ⟨l',s',t',?_⟩
  rw [List.map_cons,dG (ρ1:=[.val d,.val (dq q),.val (dq (ps0 (q - (a:Rat)))),.own acc,.val (.int c),t]) rfl,e]
  ·rw [gH,List.map_cons,List.append_assoc];rfl
  ·walk_at "ev"
   rw [bW]
   walk_at "ev"
   rw [zBr zl zc (by omega)]
   walk_at "ev"
   rw [if_pos (by omega)]
   walk_at "ev"
   rw [fB zl (zJh zl zc) (by omega)]
   walk_at "ev"
   rw [zHG c0]
theorem zBd {d:D} {cs:List Int} {q:Rat} (hd:d=.lst (cs.map D.int)∨d=.tup (cs.map D.int)) {m:Nat} (hm:m<=3000) (hc:Cl cs) (hq:Sz m q) (h0:0<=q):fE [d,dq q]=.ok (.f ((gH cs 0 q).map dq)):=by
 have sq:zHh d=.ok (cs.map D.int):=by rcases hd with rfl | rfl<;>rfl
 have:=hc.hi
 obtain ⟨l',s',t',e⟩:=zBU (d:=d) hm hq cs 0 [] .un .un hc.nn hc.up (by decide) (by omega) (by rw [List.length_nil];omega)
 have z:ps0 (q - ((0:Int):Rat))=q:=by
  unfold ps0
  rw [show ((0:Int):Rat)=0 from rfl]
  grind
 rw [z] at e
 unfold fE
 walk_at "ev"
 rw [sq]
 walk_at "ev"
 rw [e]
 rfl
def vL (cs:List Int) (q:Rat):List Rat:=cs.map fun c=>Rat.divInt (c * q.num) (max 1 cs.sum * q.den)
theorem zDK {q:Rat} {c W:Int} (h:0 < W):q / (W:Rat) * (c:Rat)=Rat.divInt (c * q.num) (W * q.den):=by
 have hW:(W:Rat)≠0:=by
  intro z
  have:W=0:=by exact_mod_cast z
  omega
 rw [<-zDM q (W:Rat)]
 show Rat.divInt (q.num * ((1:Nat):Int)) (q.den * W) * (c:Rat)=_
 rw [show ((1:Nat):Int)=1 from rfl,Int.mul_one,<-Rat.num_divInt_den (c:Rat),Rat.divInt_mul_divInt]
 show Rat.divInt (q.num * c) (q.den * W * ((1:Nat):Int))=_
 rw [show ((1:Nat):Int)=1 from rfl,Int.mul_one,Int.mul_comm q.num,Int.mul_comm (q.den:Int)]
theorem mV:∀ {cs:List Int},(∀ c∈cs,0<=c)->cs.sum=0->∀ c∈cs,c=0
 | [],_,_,c,h=>by cases h
 | d::r,h,e,c,hc=>by
  rw [List.sum_cons] at e
  have h0:=h d List.mem_cons_self
  have hr:0<=r.sum:=by
   have:∀ l:List Int,(∀ c∈l,0<=c)->0<=l.sum:=by
    intro l
    induction l with
    | nil=>intro _;decide
    | cons a l ih=>intro hl;rw [List.sum_cons];have:=hl a List.mem_cons_self;have:=ih fun x hx=>hl x (List.mem_cons_of_mem _ hx);omega
   exact this r fun x hx=>h x (List.mem_cons_of_mem _ hx)
  rcases List.mem_cons.mp hc with rfl | hc
  ·omega
  ·exact mV (fun x hx=>h x (List.mem_cons_of_mem _ hx)) (by omega) c hc
theorem yC {d:D} {cs:List Int} {q:Rat} (hd:d=.lst (cs.map D.int)∨d=.tup (cs.map D.int)) {m:Nat} (hm:m<=3000) (hc:Cl cs) (hq:Sz m q):eG [d,dq q]=.ok (.f ((vL cs q).map dq)):=by
 have sm:=hc.sum
 have hi:=hc.hi
 have sq:zHh d=.ok (cs.map D.int):=by rcases hd with rfl | rfl<;>rfl
 have su:xI [d]=.ok (.int cs.sum):=by rcases hd with rfl | rfl;exact bSum_l;exact bSum_t
 have ln:kZ [d]=.ok (.int cs.length):=by rcases hd with rfl | rfl<;>(walk_at "ev")
 unfold eG
 walk_at "ev"
 rw [su]
 walk_at "ev"
 by_cases c0:cs.sum=0
 ·rw [decide_eq_true c0]
  walk_at "ev"
  rw [ln]
  walk_at "ev"
  rw [zBT (by omega)]
  walk_at "ev"
  have e:(vL cs q).map dq=List.replicate cs.length (dq 0):=by
   unfold vL
   rw [List.map_map,<-List.map_const']
   refine List.map_congr_left fun c h=>?_
   have c0:=mV hc.nn c0 c h
   subst c0
   show dq (Rat.divInt (0 * q.num) _)=dq 0
   rw [Int.zero_mul,Rat.zero_divInt]
  rw [e]
 ·rw [decide_eq_false c0]
  walk_at "ev"
  have W0:0 < cs.sum:=by omega
  have zW:Sz 110 (cs.sum:Rat):=bZ (by omega) (by decide)
  have nW:(cs.sum:Rat)≠0:=by
   intro z
   have:cs.sum=0:=by exact_mod_cast z
   omega
  rw [bW]
  walk_at "ev"
  rw [zHa hq zW nW (by omega)]
  walk_at "ev"
  rw [sq]
  walk_at "ev"
  rw [jD (u:=D.int) (g:=fun c=>dq (Rat.divInt (c * q.num) (max 1 cs.sum * q.den))) (by omega) (fun c h=>by
   have c0:=hc.nn c h
   have c1:=hc.up c h
   walk_at "ev"
   rw [bW]
   walk_at "ev"
   rw [lC (hq.div zW nW) (bZ (n:=110) (k:=c) (by omega) (by decide)) (by omega)]
   walk_at "ev"
   rw [zDK W0,Int.max_eq_right (by omega)])]
  walk_at "ev"
  unfold vL
  rw [List.map_map]
  rfl
def fY (f:Nat->Rat) (l:List Nat):Rat:=(l.map f).sum
theorem aX (f:Nat->Rat) (i:Nat) (l:List Nat):fY f (i::l)=f i+fY f l:=by unfold fY;rw [List.map_cons,List.sum_cons]
theorem fV (f:Nat->Rat):fY f []=0:=rfl
theorem nS {f g:Nat->Rat}:∀ {l:List Nat},(∀ i∈l,f i<=g i)->fY f l<=fY g l
 | [],_=>Rat.le_refl
 | i::l,h=>by
  rw [aX,aX]
  have a:=h i List.mem_cons_self
  have b:=nS fun j hj=>h j (List.mem_cons_of_mem _ hj)
  grind
theorem nR {f g:Nat->Rat}:∀ {l:List Nat},(∀ i∈l,f i<=g i)->fY f l=fY g l->∀ i∈l,f i=g i
 | [],_,_,i,hi=>by cases hi
 | j::l,h,e,i,hi=>by
  rw [aX,aX] at e
  have a:=h j List.mem_cons_self
  have hb:∀ i∈l,f i<=g i:=fun k hk=>h k (List.mem_cons_of_mem _ hk)
  have b:=nS hb
  rcases List.mem_cons.mp hi with rfl | hi
  ·grind
  ·exact nR hb (by grind) i hi
theorem qO {f:Nat->Rat} {l m:List Nat} (h:l.Perm m):fY f l=fY f m:=by
 induction h with
 | nil=>rfl
 | cons x _ ih=>rw [aX,aX,ih]
 | swap x y l=>rw [aX,aX,aX,aX];grind
 | trans _ _ h1 h2=>rw [h1,h2]
theorem cW {w:Nat->Rat} {t:Rat}:∀ {l:List Nat},fY (fun i=>w i * t) l=t * fY w l
 | []=>by rw [fV,fV];grind
 | i::l=>by rw [aX,aX,cW];grind
theorem dM {f g:Nat->Rat} {l:List Nat} (h:∀ i∈l,f i=g i):fY f l=fY g l:=by unfold fY;rw [List.map_congr_left h]
theorem zFN {w:Nat->Rat}:∀ {l:List Nat},(∀ i∈l,0 < w i)->0<=fY w l
 | [],_=>Rat.le_refl
 | i::l,h=>by
  rw [aX]
  have a:=h i List.mem_cons_self
  have b:=zFN fun j hj=>h j (List.mem_cons_of_mem _ hj)
  grind
def dN (c w:Nat->Rat) (t:Rat) (i:Nat):Rat:=mn (w i * t) (c i)
theorem zMw {a b c d:Rat} (h:a<=c) (h':b<=d):mn a b<=mn c d:=by unfold mn;grind
theorem kI {c w:Nat->Rat} {t u:Rat} {i:Nat} (hw:0 < w i) (h:t<=u):dN c w t i<=dN c w u i:=
 zMw (Rat.mul_le_mul_of_nonneg_left h (Rat.le_of_lt hw)) Rat.le_refl
theorem vH {c w:Nat->Rat} {t u:Rat} {l:List Nat} (hw:∀ i∈l,0 < w i) (h:fY (dN c w t) l=fY (dN c w u) l):∀ i∈l,dN c w t i=dN c w u i:=by
 rcases Rat.le_total (a:=t) (b:=u) with g | g
 ·exact nR (fun i hi=>kI (hw i hi) g) h
 ·exact fun i hi=>(nR (fun i hi=>kI (hw i hi) g) h.symm i hi).symm
theorem zEg {L W w c:Rat} (hW:0 < W) (h:L * w / W < c):mn (L * w / W) c=mn (w * (L / W)) c/\mn (w * (L / W)) c=w * (L / W):=by
 have e:L * w / W=w * (L / W):=by grind
 rw [e] at h ⊢
 exact ⟨rfl,if_pos h⟩
theorem zDJ {r W w c:Rat} (hW:W≠0) (h:w * r<=c):mn (r * W * w / W) c=w * r:=by
 have e:r * W * w / W=w * r:=by grind
 rw [e]
 unfold mn
 grind
theorem zDf {ci wi cj wj r:Rat} (h1:0 < wi) (h2:0 < wj) (h:ci * wj<=cj * wi) (hr:wi * r<=ci):wj * r<=cj:=by
 have a:wi * r * wj<=ci * wj:=Rat.mul_le_mul_of_nonneg_right hr (Rat.le_of_lt h2)
 have b:wj * r * wi<=cj * wi:=by
  have:wj * r * wi=wi * r * wj:=by grind
  rw [this];exact Rat.le_trans a h
 exact Rat.le_of_mul_le_mul_right b h1
theorem zCN {L W w c b:Rat} (hw:0 < w) (h:¬ L * w / W < c) (hW:0 < W) (hb:b * W<=L):∃ b',b<=b'/\c<=w * b'/\b' * (W - w)<=L - c:=by
 have h1:c * W<=L * w:=by
  have h':=Rat.not_lt.mp h
  have:=Rat.mul_le_mul_of_nonneg_right h' (Rat.le_of_lt hW)
  rwa [Rat.div_mul_cancel (by grind)] at this
 have e1:w * (c / w)=c:=by grind
 have e2:c / w * (W - w)=c * W / w - c:=by grind
 have e3:c * W / w<=L:=by
  have a:c * W / w * w<=L * w:=by rw [Rat.div_mul_cancel (by grind)];exact h1
  exact Rat.le_of_mul_le_mul_right a hw
 rcases Rat.le_total (a:=b) (b:=c / w) with g | g
 ·exact ⟨c / w,g,by rw [e1];exact Rat.le_refl,by rw [e2];grind⟩
 ·refine ⟨b,Rat.le_refl,?_,?_⟩
  ·have:=Rat.mul_le_mul_of_nonneg_left g (Rat.le_of_lt hw)
   rwa [e1] at this
  ·have:=Rat.mul_le_mul_of_nonneg_left g (Rat.le_of_lt hw)
   rw [e1] at this
   grind
structure Wt (ws cs:List Int):Prop where
 len:ws.length=cs.length
 lo:∀ w∈ws,1<=w
 up:∀ w∈ws,w<=10^6
def cR (cs:List Int) (i:Nat):Rat:=((cs.getD i 0:Int):Rat)
def mX:List (Nat×Rat)->List D->List D
 | [],am=>am
 | p::r,am=>mX r (am.set p.1 (dq p.2))
def wS (ws:List Int) (π:List Nat):Int:=(π.map fun i=>ws.getD i 0).sum
theorem kH (ws:List Int) (i:Nat) (π:List Nat):wS ws (i::π)=ws.getD i 0+wS ws π:=by unfold wS;rw [List.map_cons,List.sum_cons]
theorem bE {l:List Int} {i:Nat} (h:i < l.length):l[i]?=some (l.getD i 0):=by rw [List.getD_eq_getElem?_getD,List.getElem?_eq_getElem h];rfl
theorem zMn {i:Nat} {k e:Ev} {ρ:Rho} {ds:List D} {d:D} {j:Nat} (h1:e ρ=.ok d) (h2:ρ[i]?=some (.own ds)) (h3:k ρ=.ok (.int (j:Int))) (h4:j < ds.length):zLD i k e ρ=.ok (.nx (ρ.set i (.own (ds.set j d)))):=by
 unfold zLD
 rw [h1]
 show (match ρ[i]? with | some (.own ds)=>_ | _=>_)=_
 rw [h2]
 show (k ρ).bind _=_
 rw [h3]
 exact if_pos ⟨Int.natCast_nonneg j,by omega⟩
theorem zKH {ds:List D} {d:D} {i:Nat} (h:i < ds.length):oIx (.lst (ds.set i d)) (.int (i:Int))=.ok d:=by
 have e:=rD (f:=id) (l:=ds.set i d) (i:=(i:Int)) (a:=d) (Int.natCast_nonneg i) (show (ds.set i d)[i]?=some d from List.getElem?_set_self h)
 rwa [List.map_id] at e
theorem Wt.at {ws cs:List Int} (h:Wt ws cs) {i:Nat} (hi:i < cs.length):1<=ws.getD i 0/\ws.getD i 0<=10^6:=by
 have:=bE (l:=ws) (i:=i) (by rw [h.len];exact hi)
 exact ⟨h.lo _ (List.mem_of_getElem? this),h.up _ (List.mem_of_getElem? this)⟩
theorem Wt.sum {ws cs:List Int} (h:Wt ws cs):∀ {π:List Nat},(∀ i∈π,i < cs.length)->(π.length:Int)<=wS ws π/\wS ws π<=π.length * 10^6
 | [],_=>⟨Int.le_refl _,Int.le_refl _⟩
 | i::π,hi=>by
  have a:=h.at (hi i List.mem_cons_self)
  have b:=h.sum fun j hj=>hi j (List.mem_cons_of_mem _ hj)
  rw [kH,List.length_cons]
  omega
def Sq (d:D) (l:List Int):Prop:=d=.lst (l.map D.int)∨d=.tup (l.map D.int)
theorem Sq.ix {d:D} {l:List Int} (h:Sq d l) {i:Nat} (hi:i < l.length):oIx d (.int (i:Int))=.ok (.int (l.getD i 0)):=by
 rcases h with rfl | rfl
 ·exact rD (Int.natCast_nonneg i) (bE hi)
 ·exact wA (Int.natCast_nonneg i) (bE hi)
theorem Sq.sum {d:D} {l:List Int} (h:Sq d l):xI [d]=.ok (.int l.sum):=by
 rcases h with rfl | rfl
 ·exact bSum_l
 ·exact bSum_t
theorem Sq.len {d:D} {l:List Int} (h:Sq d l):kZ [d]=.ok (.int l.length):=by
 rcases h with rfl | rfl
 ·rw [bLen_l,List.length_map]
 ·rw [bLen_t,List.length_map]
theorem Sq.seq {d:D} {l:List Int} (h:Sq d l):zHh d=.ok (l.map D.int):=by
 rcases h with rfl | rfl<;>rfl
theorem Sq.seqo {d:D} {l:List Int} (h:Sq d l):zFq d=some (l.map D.int):=by
 rcases h with rfl | rfl<;>rfl
theorem zEw {ws cs:List Int} {wd cd:D} (sw:Sq wd ws) (sc:Sq cd cs) {qv s7:Sl} {L:Rat} {W:Int} {i:Nat} {am:List D} (hW:Wt ws cs) (hc:∀ c∈cs,0<=c/\c < 10^30) {m:Nat} (hm:m<=3000) (hL:Sz (m+250) L) (W0:0 < W) (W1:W<=12 * 10^6) (hi:i < cs.length) (ha:am.length=cs.length) {a:Rat} (ea:mn (L * cR ws i / (W:Rat)) (cR cs i)=a):
  bO [.val wd,.val cd,qv,.val (dq L),.val (.int W),.own am,.val (.int (i:Nat)),s7]=
   .ok (.nx [.val wd,.val cd,qv,.val (dq (L - a)),.val (.int (W - ws.getD i 0)),.own (am.set i (dq a)),.val (.int (i:Nat)),.val (dq (L * cR ws i / (W:Rat)))]):=by
 have hiw:i < ws.length:=by rw [hW.len];exact hi
 obtain ⟨w1,w2⟩:=hW.at hi
 obtain ⟨c1,c2⟩:=hc _ (List.mem_of_getElem? (bE hi))
 have zW:Sz 24 (W:Rat):=bZ (by omega) (by decide)
 have zw:Sz 20 (cR ws i):=bZ (by omega) (by decide)
 have zc:Sz (m+294) (cR cs i):=Sz.mono (m:=100) (bZ (by omega) (by decide)) (by omega)
 have nW:(W:Rat)≠0:=by
  intro z
  have:W=0:=by exact_mod_cast z
  omega
 have fw:bP [.int (ws.getD i 0)]=.ok (.v (dq (cR ws i))):=bW _
 have fc:bP [.int (cs.getD i 0)]=.ok (.v (dq (cR cs i))):=bW _
 have zx:Sz (m+294) (L * cR ws i / (W:Rat)):=((hL.mul zw).div zW nW).mono (by omega)
 walk_at "ev"
 rw [sw.ix hiw]
 walk_at "ev"
 rw [fw]
 walk_at "ev"
 rw [lC hL zw (by omega)]
 walk_at "ev"
 rw [bW]
 walk_at "ev"
 rw [zHa (hL.mul zw) zW nW (by omega)]
 walk_at "ev"
 rw [zMn (j:=i) (d:=dq a) (ds:=am) (by
  walk_at "ev"
  rw [sc.ix hi]
  walk_at "ev"
  rw [fc]
  walk_at "ev"
  rw [zBr zx zc (by omega),ea]
  walk_at "ev") rfl rfl (by omega)]
 walk_at "ev"
 rw [zKH (by omega)]
 walk_at "ev"
 rw [fB hL (ea ▸ zJh zx zc) (by omega)]
 walk_at "ev"
 rw [sw.ix hiw]
 walk_at "ev"
theorem kC (ws:List Int):∀ π:List Nat,fY (cR ws) π=(wS ws π:Rat)
 | []=>rfl
 | i::π=>by rw [aX,kC ws π,kH,Rat.intCast_add];rfl
theorem xW {ws cs:List Int} {wd cd:D} (sw:Sq wd ws) (sc:Sq cd cs) {qv:Sl} {r:Rat} {m:Nat} (hm:m<=3000) (hW:Wt ws cs) (hc:∀ c∈cs,0<=c/\c < 10^30) (hr:Sz (m+150) r):∀ (π:List Nat) (am:List D) (s6 s7:Sl),(∀ i∈π,i < cs.length)->(∀ i∈π,cR ws i * r<=cR cs i)->π.length<=12->am.length=cs.length->
  ∃ l' W' s' t',fP (gName 6) bO (hU π) [.val wd,.val cd,qv,.val (dq (r * (wS ws π:Rat))),.val (.int (wS ws π)),.own am,s6,s7]=
   .ok (.nx [.val wd,.val cd,qv,l',W',.own (mX (π.map fun i=>(i,cR ws i * r)) am),s',t'])
 | [],am,s6,s7,_,_,_,_=>⟨_,_,_,_,rfl⟩
 | i::π,am,s6,s7,h1,h2,h4,h5=>by
  have hi:=h1 i List.mem_cons_self
  obtain ⟨W1,W2⟩:=hW.sum h1
  rw [List.length_cons] at h4 W1 W2
  have zW:Sz 24 (wS ws (i::π):Rat):=bZ (by omega) (by decide)
  have nW:(wS ws (i::π):Rat)≠0:=by
   intro z
   have:wS ws (i::π)=0:=by exact_mod_cast z
   omega
  have e1:wS ws (i::π) - ws.getD i 0=wS ws π:=by rw [kH];omega
  have e2:r * (wS ws (i::π):Rat) - cR ws i * r=r * (wS ws π:Rat):=by
   rw [kH,Rat.intCast_add]
   show r * (cR ws i+(wS ws π:Rat)) - cR ws i * r=_
   grind
  have tn:=zEw sw sc (qv:=qv) (s7:=s7) (W:=wS ws (i::π)) (am:=am) hW hc hm ((hr.mul zW).mono (by omega)) (by omega) (by omega) hi h5 (zDJ nW (h2 i List.mem_cons_self))
  rw [e1,e2] at tn
  obtain ⟨l',W',s',t',e⟩:=xW sw sc hm hW hc hr π (am.set i (dq (cR ws i * r))) _ _ (fun j hj=>h1 j (List.mem_cons_of_mem _ hj)) (fun j hj=>h2 j (List.mem_cons_of_mem _ hj)) (by omega) (by rw [List.length_set];exact h5)
  refine ⟨l',W',s',t',?_⟩
  show fP _ _ (.int (i:Nat)::hU π) _=_
  rw [dG rfl tn,e]
  rfl
theorem zC {ws cs:List Int} {wd cd:D} (sw:Sq wd ws) (sc:Sq cd cs) {qv:Sl} {q:Rat} {m:Nat} (hm:m<=3000) (hW:Wt ws cs) (hc:∀ c∈cs,0<=c/\c < 10^30) (hq:Sz m q):∀ (π:List Nat) (k:Int) (b:Rat) (am:List D) (s6 s7:Sl),(∀ i∈π,i < cs.length)->π.Pairwise (fun i j=>cR cs i * cR ws j<=cR cs j * cR ws i)->π.length<=12->am.length=cs.length->
  0<=k->k+π.length * 10^30 < 2^110->0<=q - (k:Rat)->q - (k:Rat)<=fY (cR cs) π->b * (wS ws π:Rat)<=q - (k:Rat)->
  ∃ t,b<=t/\fY (dN (cR cs) (cR ws) t) π=q - (k:Rat)/\(∀ i∈π,Sz (m+155) (dN (cR cs) (cR ws) t i))/\∃ l' W' s' t',fP (gName 6) bO (hU π) [.val wd,.val cd,qv,.val (dq (q - (k:Rat))),.val (.int (wS ws π)),.own am,s6,s7]=
   .ok (.nx [.val wd,.val cd,qv,l',W',.own (mX (π.map fun i=>(i,dN (cR cs) (cR ws) t i)) am),s',t'])
 | [],k,b,am,s6,s7,_,_,_,_,_,_,h6,h7,_=>⟨b,Rat.le_refl,by rw [fV] at h7 ⊢;grind,fun i h=>by (cases h),_,_,_,_,rfl⟩
 | i::π,k,b,am,s6,s7,h1,h2,h3,h4,h5,h5',h6,h7,h8=>by
  have hi:=h1 i List.mem_cons_self
  have h1':∀ j∈π,j < cs.length:=fun j hj=>h1 j (List.mem_cons_of_mem _ hj)
  obtain ⟨W1,W2⟩:=hW.sum h1
  obtain ⟨V1,V2⟩:=hW.sum h1'
  obtain ⟨w1,w2⟩:=hW.at hi
  obtain ⟨c1,c2⟩:=hc _ (List.mem_of_getElem? (bE hi))
  obtain ⟨p1,p2⟩:=List.pairwise_cons.mp h2
  rw [List.length_cons] at h3 h5' W1 W2
  have ek:((π.length+1:Nat):Int) * 10^30=(π.length:Int) * 10^30+10^30:=by rw [Int.natCast_add,Int.add_mul];rfl
  have k0:0<=(π.length:Int) * 10^30:=Int.mul_nonneg (by omega) (by decide)
  have zW:Sz 24 (wS ws (i::π):Rat):=bZ (by omega) (by decide)
  have zk:Sz 110 (k:Rat):=bZ (by omega) (by decide)
  have zL:Sz (m+111) (q - (k:Rat)):=(hq.sub zk).mono (by omega)
  have pW:(0:Rat) < (wS ws (i::π):Rat):=by exact_mod_cast (show 0 < wS ws (i::π) by omega)
  have nW:(wS ws (i::π):Rat)≠0:=fun z=>by rw [z] at pW;exact absurd pW (by decide)
  have pw:∀ j,j < cs.length->0 < cR ws j:=fun j hj=>by
   have:=(hW.at hj).1
   unfold cR
   exact_mod_cast (show 0 < ws.getD j 0 by omega)
  have e1:wS ws (i::π) - ws.getD i 0=wS ws π:=by rw [kH];omega
  have eW:(wS ws (i::π):Rat)=cR ws i+(wS ws π:Rat):=by rw [kH,Rat.intCast_add];rfl
  have pV:(0:Rat)<=(wS ws π:Rat):=by exact_mod_cast (show 0<=wS ws π by omega)
  generalize hL:q - (k:Rat)=L at h6 h7 h8 zL ⊢
  have loop1:∀ {a:Rat} {l' W' s' t':Sl} {am':List D},mn (L * cR ws i / (wS ws (i::π):Rat)) (cR cs i)=a->fP (gName 6) bO (hU π) [.val wd,.val cd,qv,.val (dq (L - a)),.val (.int (wS ws π)),.own (am.set i (dq a)),.val (.int (i:Nat)),.val (dq (L * cR ws i / (wS ws (i::π):Rat)))]=.ok (.nx [.val wd,.val cd,qv,l',W',.own am',s',t'])->
    fP (gName 6) bO (hU (i::π)) [.val wd,.val cd,qv,.val (dq L),.val (.int (wS ws (i::π))),.own am,s6,s7]=.ok (.nx [.val wd,.val cd,qv,l',W',.own am',s',t']):=fun {a l' W' s' t' am'} ea e=>by
   have tn:=zEw sw sc (qv:=qv) (s7:=s7) (W:=wS ws (i::π)) (am:=am) hW hc hm (zL.mono (by omega)) (by omega) (by omega) hi h4 ea
   rw [e1] at tn
   show fP _ _ (.int (i:Nat)::hU π) _=_
   rw [dG rfl tn]
   exact e
  by_cases hx:L * cR ws i / (wS ws (i::π):Rat) < cR cs i
  ·obtain ⟨x1,x2⟩:=zEg pW hx
   generalize hr:L / (wS ws (i::π):Rat)=r at x1 x2
   have zr:Sz (m+135) r:=hr ▸ (zL.div zW nW).mono (by omega)
   have eL:L=r * (wS ws (i::π):Rat):=by rw [<-hr,Rat.div_mul_cancel nW]
   have wr:cR ws i * r<=cR cs i:=by
    have e:L * cR ws i / (wS ws (i::π):Rat)=cR ws i * r:=by rw [<-hr];grind
    rw [e] at hx;exact Rat.le_of_lt hx
   have later:∀ j∈π,cR ws j * r<=cR cs j:=fun j hj=>zDf (pw i hi) (pw j (h1' j hj)) (p1 j hj) wr
   have gj:∀ j∈i::π,dN (cR cs) (cR ws) r j=cR ws j * r:=fun j hj=>by
    have:cR ws j * r<=cR cs j:=by
     rcases List.mem_cons.mp hj with rfl | hj
     ·exact wr
     ·exact later j hj
    unfold dN mn
    grind
   have e2:L - cR ws i * r=r * (wS ws π:Rat):=by rw [eL,eW];grind
   obtain ⟨l',W',s',t',e⟩:=xW sw sc (qv:=qv) hm hW hc (zr.mono (by omega)) π (am.set i (dq (cR ws i * r))) (.val (.int (i:Nat))) (.val (dq (L * cR ws i / (wS ws (i::π):Rat)))) h1' later (by omega) (by rw [List.length_set];exact h4)
   refine ⟨r,Rat.le_of_mul_le_mul_right (by rw [<-eL];exact h8) pW,?_,fun j hj=>?_,l',W',s',t',loop1 (a:=cR ws i * r) (x1.trans x2) ?_⟩
   ·rw [dM gj,cW,kC,<-eL]
   ·rw [gj j hj]
    have v:=hW.at (h1 j hj)
    exact (Sz.mul (m:=20) (n:=m+135) (bZ (by omega) (by decide)) zr).mono (by omega)
   ·rw [e2,e,List.map_cons,mX,gj i List.mem_cons_self]
    rw [List.map_congr_left (g:=fun j=>(j,dN (cR cs) (cR ws) r j)) fun j hj=>by rw [gj j (List.mem_cons_of_mem _ hj)]]
  ·have ea:mn (L * cR ws i / (wS ws (i::π):Rat)) (cR cs i)=cR cs i:=if_neg hx
   obtain ⟨b',g1,g2,g3⟩:=zCN (pw i hi) hx pW h8
   have ek2:q - ((k+cs.getD i 0:Int):Rat)=L - cR cs i:=by rw [Rat.intCast_add,<-hL];show q - ((k:Rat)+cR cs i)=_;grind
   have c0:0<=cR cs i:=by unfold cR;exact_mod_cast c1
   have cL:cR cs i<=L:=by
    have y:=Rat.mul_le_mul_of_nonneg_right (Rat.not_lt.mp hx) (Rat.le_of_lt pW)
    rw [Rat.div_mul_cancel nW] at y
    have y2:L * cR ws i<=L * (wS ws (i::π):Rat):=Rat.mul_le_mul_of_nonneg_left (by rw [eW];grind) h6
    exact Rat.le_of_mul_le_mul_right (Rat.le_trans y y2) pW
   rw [aX] at h7
   have g3':b' * (wS ws π:Rat)<=L - cR cs i:=by
    rw [eW] at g3
    have:cR ws i+(wS ws π:Rat) - cR ws i=(wS ws π:Rat):=by grind
    rw [this] at g3;exact g3
   obtain ⟨t,t1,t2,tz,l',W',s',t',e⟩:=zC sw sc (qv:=qv) hm hW hc hq π (k+cs.getD i 0) b' (am.set i (dq (cR cs i))) (.val (.int (i:Nat))) (.val (dq (L * cR ws i / (wS ws (i::π):Rat)))) h1' p2 (by omega) (by rw [List.length_set];exact h4) (by omega) (by omega) (by rw [ek2];grind) (by rw [ek2];grind) (by rw [ek2];exact g3')
   have gi:dN (cR cs) (cR ws) t i=cR cs i:=by
    have:=Rat.mul_le_mul_of_nonneg_left t1 (Rat.le_of_lt (pw i hi))
    unfold dN mn
    grind
   rw [ek2] at e t2
   refine ⟨t,Rat.le_trans g1 t1,?_,fun j hj=>?_,l',W',s',t',loop1 ea ?_⟩
   ·rw [aX,gi,t2];grind
   ·rcases List.mem_cons.mp hj with rfl | hj
    ·rw [gi];exact Sz.mono (m:=100) (bZ (by omega) (by decide)) (by omega)
    ·exact tz j hj
   ·rw [e,List.map_cons,mX,gi]
theorem uJ {g:Nat->Rat}:∀ (π:List Nat) (am:List D) (j:Nat),(mX (π.map fun i=>(i,g i)) am)[j]?=if j∈π then (if j < am.length then some (dq (g j)) else none) else am[j]?
 | [],am,j=>by simp [mX]
 | i::π,am,j=>by
  rw [List.map_cons,mX,uJ π,List.length_set]
  by_cases h1:j∈π
  ·rw [if_pos h1,if_pos (List.mem_cons_of_mem _ h1)]
  ·rw [if_neg h1]
   by_cases h2:j=i
   ·subst h2
    rw [if_pos List.mem_cons_self]
    by_cases h3:j < am.length
    ·rw [if_pos h3];exact List.getElem?_set_self h3
    ·rw [if_neg h3,List.getElem?_eq_none (by rw [List.length_set];omega)]
   ·rw [if_neg (by simp [h1,h2]),List.getElem?_set_ne (fun z=>h2 z.symm)]
theorem zCP {g:Nat->Rat} {π:List Nat} {n:Nat} (h:π.Perm (List.range n)):mX (π.map fun i=>(i,g i)) (List.replicate n (dq 0))=((List.range n).map g).map dq:=by
 refine List.ext_getElem? fun j=>?_
 rw [uJ,List.getElem?_map,List.getElem?_map,List.length_replicate]
 by_cases hj:j < n
 ·rw [if_pos (h.mem_iff.mpr (List.mem_range.mpr hj)),if_pos hj,List.getElem?_range hj];rfl
 ·rw [if_neg (fun z=>hj (List.mem_range.mp (h.mem_iff.mp z))),List.getElem?_eq_none (by rw [List.length_replicate];omega),List.getElem?_eq_none (by rw [List.length_range];omega)];rfl
theorem zAe (kz:List Int):∃ π,fK kz π:=by
 refine ⟨(List.range kz.length).mergeSort (fun i j=>decide (kz.getD i 0<=kz.getD j 0)),List.mergeSort_perm _ _,?_⟩
 have:=List.pairwise_mergeSort (le:=fun i j=>decide (kz.getD i 0<=kz.getD j 0)) (fun a b c h1 h2=>by simp only [decide_eq_true_eq] at *;omega) (fun a b=>by simp only [Bool.or_eq_true,decide_eq_true_eq];omega) (List.range kz.length)
 exact this.imp fun h=>of_decide_eq_true h
theorem zDb {fs:Fv} {kf:List D->Res (List Int)} {g:Gv} {b r:Sv} {ρ:Rho} {kz:List Int} {x:Res Fl} (h1:(fs ρ).bind kf=.ok kz) (h:∀ π,fK kz π->bF (fun ρ=>fP g b (hU π) ρ) r ρ=x):zDv fs kf g b r ρ=x:=by
 obtain ⟨π,hπ⟩:=zAe kz
 unfold zDv
 rw [h1]
 exact zCn hπ h
def pM:List Rat->Int
 | []=>1
 | x::r=>x.den * pM r
def zFl (B:Int) (x:Rat):Int:=x.num * B.fdiv x.den
theorem zCj:∀ {l:List Rat} {x:Rat},x∈l->(x.den:Int) ∣ pM l
 | y::r,x,h=>by
  rcases List.mem_cons.mp h with rfl | h
  ·exact ⟨pM r,rfl⟩
  ·exact Int.dvd_trans (zCj h) ⟨y.den,Int.mul_comm _ _⟩
theorem wY:∀ l:List Rat,0 < pM l
 | []=>by decide
 | x::r=>Int.mul_pos (iF x) (wY r)
theorem zGE {l:List Rat} {x:Rat} (h:x∈l):((zFl (pM l) x:Int):Rat)=x * (pM l:Rat):=by
 obtain ⟨k,hk⟩:=zCj h
 have d0:=iF x
 unfold zFl
 rw [fdiv_pos _ d0,hk,Int.mul_ediv_cancel_left _ (by omega),Rat.intCast_mul,Rat.intCast_mul]
 have e:x * ((x.den:Int):Rat)=(x.num:Rat):=by
  have h1:=Rat.num_divInt_den x
  rw [Rat.divInt_eq_div] at h1
  have h2:((x.den:Int):Rat)≠0:=fun z=>by
   have:(x.den:Int)=0:=by exact_mod_cast z
   omega
  rw [<-Rat.div_mul_cancel (a:=(x.num:Rat)) h2,h1]
 rw [<-e]
 grind
theorem yM {a:Sl}:∀ (l:List Rat) (B:Int) (s:Sl) (m:Nat),(∀ x∈l,(x.den:Int)<=10^6)->B.natAbs < 2^m->m+20 * l.length<=1000->
  ∃ s',fP (gName 2) uD (l.map dq) [a,.val (.int B),s]=.ok (.nx [a,.val (.int (B * pM l)),s'])/\(B * pM l).natAbs < 2^(m+20 * l.length)
 | [],B,s,m,_,h2,_=>⟨s,by rw [List.map_nil,fP,pM,Int.mul_one],by rw [pM,Int.mul_one];exact h2⟩
 | x::r,B,s,m,h1,h2,h3=>by
  have d1:=h1 x List.mem_cons_self
  have d0:=iF x
  rw [List.length_cons] at h3
  have hx:((x.den:Int)).natAbs < 2^20:=by omega
  obtain ⟨s',e,hb⟩:=yM r (B * x.den) (.val (dq x)) (m+20) (fun y hy=>h1 y (List.mem_cons_of_mem _ hy)) (eA h2 hx) (by omega)
  have ed:B * pM (x::r)=B * x.den * pM r:=by rw [pM,Int.mul_assoc]
  refine ⟨s',?_,by rw [ed,List.length_cons,show m+20 * (r.length+1)=m+20+20 * r.length by omega];exact hb⟩
  rw [ed,<-e,List.map_cons]
  refine dG (ρ1:=[a,.val (.int B),.val (dq x)]) rfl ?_
  walk_at "ev"
  rw [oMul_i (bN (m:=m) (n:=20) h2 hx (by omega))]
  walk_at "ev"
theorem zBW {B:Int} (hB:B.natAbs < 2^1000):∀ {l:List Rat},(∀ x∈l,(x.den:Int)<=10^6/\Sz 500 x)->lY B (l.map dq)=.ok (l.map (zFl B))
 | [],_=>rfl
 | x::r,h=>by
  obtain ⟨d1,z⟩:=h x List.mem_cons_self
  have d0:=iF x
  have e1:jP (x.den:Int)=true:=pL (m:=20) (by omega) (by omega) (by decide)
  have e2:hJ x.num (B.fdiv x.den)=true:=by
   rw [fdiv_pos _ d0]
   refine bN (m:=500) (n:=1000) z.1 (Nat.lt_of_le_of_lt ?_ hB) (by decide)
   exact Int.natAbs_ediv_le_natAbs _ _
  have k1:zFp B (dq x)=.ok (zFl B x):=by
   show (if (jP (x.den:Int) && hJ x.num (B.fdiv x.den))=true then Res.ok _ else .no)=_
   rw [e1,e2];rfl
  rw [List.map_cons,lY,k1]
  show ((lY B (r.map dq)).bind fun ks=>Res.ok (zFl B x::ks))=_
  rw [zBW hB fun y hy=>h y (List.mem_cons_of_mem _ hy)]
  rfl
theorem uF {l:List Rat} (h:∀ x∈l,(x.den:Int)<=10^6/\Sz 500 x) (hl:l.length<=12):gQ [.lst (l.map dq)]=.ok (l.map (zFl (pM l))):=by
 obtain ⟨s',e,hb⟩:=yM (a:=.val (.lst (l.map dq))) l 1 .un 1 (fun x hx=>(h x hx).1) (by decide) (by omega)
 rw [Int.one_mul] at e hb
 have r1:yN (start 3 [.lst (l.map dq)])=.ok (.nx [.val (.lst (l.map dq)),.val (.int 1),.un]):=rfl
 have r2:qE [.val (.lst (l.map dq)),.val (.int 1),.un]=.ok (.nx [.val (.lst (l.map dq)),.val (.int (pM l)),s']):=by
  walk_at "ev"
  exact e
 unfold gQ vY
 rw [if_pos (show [D.lst (l.map dq)].length=1 from rfl),r1]
 show (match qE [.val (.lst (l.map dq)),.val (.int 1),.un] with | .ok (.nx ρ')=>zBI ρ' | _=>.no)=_
 rw [r2]
 show (if (l.map dq).length < 64 then lY (pM l) (l.map dq) else .no)=_
 rw [if_pos (by rw [List.length_map];omega)]
 exact zBW (Nat.lt_of_lt_of_le hb (Nat.pow_le_pow_right (by decide) (by omega))) h
def lvs (ws cs:List Int):List Rat:=(cs.zip ws).map fun p=>Rat.divInt p.1 p.2
theorem vM {ws cs:List Int} (h:ws.length=cs.length):(lvs ws cs).length=cs.length:=by unfold lvs;rw [List.length_map,List.length_zip,h,Nat.min_self]
theorem zDH {ws cs:List Int} {i:Nat} (h:ws.length=cs.length) (hi:i < cs.length):(lvs ws cs)[i]?=some (cR cs i / cR ws i):=by
 unfold lvs
 rw [List.getElem?_map]
 have:(cs.zip ws)[i]?=some (cs.getD i 0,ws.getD i 0):=by
  rw [List.getElem?_zip_eq_some]
  exact ⟨bE hi,bE (by omega)⟩
 rw [this]
 show some (Rat.divInt _ _)=_
 rw [Rat.divInt_eq_div]
 rfl
theorem zBC {t b:Int} (hb:0 < b):((Rat.divInt t b).den:Int)<=b:=by
 have e:=tY (t:=t) (b:=b) (by omega)
 have d0:0<=dv t b:=by unfold dv;rw [if_neg (by omega)];exact Int.natCast_nonneg _
 rw [<-e,zIe _ d0]
 exact Int.ediv_le_self _ (by omega)
theorem zHr {ws cs:List Int} (hW:Wt ws cs) (hc:∀ c∈cs,0<=c/\c < 10^30):∀ x∈lvs ws cs,(x.den:Int)<=10^6/\Sz 500 x:=fun x hx=>by
 obtain ⟨p,hp,rfl⟩:=List.mem_map.mp hx
 obtain ⟨h1,h2⟩:=List.of_mem_zip hp
 have c:=hc _ h1
 have w1:=hW.lo _ h2
 have w2:=hW.up _ h2
 have d:=zBC (t:=p.1) (b:=p.2) (by omega)
 exact ⟨by omega,Sz.of (by omega) (by omega) (by omega)⟩
theorem pP {ws cs:List Int} {wd cd:D} (sw:Sq wd ws) (sc:Sq cd cs) (hW:Wt ws cs) (hl:cs.length<=12):cZ [wd,cd]=.ok (.f ((lvs ws cs).map dq)):=by
 have hw:=hW.len
 unfold cZ
 walk_at "ev"
 rw [oE sc.seqo sw.seqo]
 walk_at "ev"
 rw [iI (u:=D.int) (v:=D.int) (g:=fun c w=>dq (Rat.divInt c w)) (by omega) (fun p hp=>by
  have h2:=(List.of_mem_zip hp).2
  have w1:=hW.lo _ h2
  have w2:=hW.up _ h2
  walk_at "ev"
  rw [zZ (n:=20) (by omega) (by omega) (by decide)]
  walk_at "ev")]
 walk_at "ev"
 unfold lvs
 rw [List.map_map]
 rfl
theorem vD (ws:List Int):∀ n,n<=ws.length->wS ws (List.range n)=(ws.take n).sum
 | 0,_=>rfl
 | n+1,h=>by
  have e:wS ws (List.range n++[n])=wS ws (List.range n)+ws.getD n 0:=by unfold wS;rw [List.map_append,List.sum_append];simp
  rw [List.range_succ,e,vD ws n (by omega),List.take_succ,List.sum_append,bE (show n < ws.length by omega)]
  simp
theorem uW {ws:List Int} {π:List Nat} (h:π.Perm (List.range ws.length)):wS ws π=ws.sum:=by
 have e:=kC ws π
 rw [qO h,kC,vD ws _ (Nat.le_refl _),List.take_length] at e
 have:=Rat.intCast_inj.mp e
 omega
theorem zHk {a b:Sv} {ρ ρ':Rho} (h:a ρ=.ok (.nx ρ')):bF a b ρ=b ρ':=by unfold bF;rw [h];rfl
def evs (ws cs:List Int) (t:Rat):List Rat:=(List.range cs.length).map (dN (cR cs) (cR ws) t)
theorem oI {ws cs:List Int} {wd cd:D} (sw:Sq wd ws) (sc:Sq cd cs) {q:Rat} {m:Nat} (hmm:m<=3000) (hW:Wt ws cs) (hc:Cl cs) (hq:Sz m q) (h0:0<=q) (h1:q<=(cs.sum:Rat)):∃ t,0<=t/\cP [wd,cd,dq q]=.ok (.f ((evs ws cs t).map dq))/\(evs ws cs t).sum=q/\∀ i,i < cs.length->Sz (m+155) (dN (cR cs) (cR ws) t i):=by
 have hcc:∀ c∈cs,0<=c/\c < 10^30:=fun c h=>⟨hc.nn c h,hc.up c h⟩
 have hi:=hc.hi
 have hw:=hW.len
 have hkr:=uF (zHr hW hcc) (by rw [vM hw];exact hi)
 generalize hkz:(lvs ws cs).map (zFl (pM (lvs ws cs)))=kz at hkr
 have lz:kz.length=cs.length:=by rw [<-hkz,List.length_map,vM hw]
 have pw:∀ j,j < cs.length->0 < cR ws j:=fun j hj=>by
  have:=(hW.at hj).1
  unfold cR
  exact_mod_cast (show 0 < ws.getD j 0 by omega)
 have one:∀ π,fK kz π->∃ t,0<=t/\fY (dN (cR cs) (cR ws) t) (List.range cs.length)=q/\(∀ i,i < cs.length->Sz (m+155) (dN (cR cs) (cR ws) t i))/\bF (fun ρ=>fP (gName 6) bO (hU π) ρ) hZ [.val wd,.val cd,.val (dq q),.val (dq q),.val (.int ws.sum),.own (List.replicate cs.length (dq 0)),.un,.un]=.ok (.ret (.f ((evs ws cs t).map dq))):=by
  intro π hπ
  obtain ⟨hp,ho⟩:=hπ
  rw [lz] at hp
  have hm:∀ i∈π,i < cs.length:=fun i h=>List.mem_range.mp (hp.mem_iff.mp h)
  have hl:π.length=cs.length:=by rw [hp.length_eq,List.length_range]
  have B0:=wY (lvs ws cs)
  have B0':(0:Rat) < (pM (lvs ws cs):Rat):=by exact_mod_cast B0
  have kat:∀ i,i < cs.length->((kz.getD i 0:Int):Rat)=cR cs i / cR ws i * (pM (lvs ws cs):Rat):=fun i h=>by
   have e:=zDH hw h
   have e2:kz.getD i 0=zFl (pM (lvs ws cs)) (cR cs i / cR ws i):=by rw [<-hkz,List.getD_eq_getElem?_getD,List.getElem?_map,e];rfl
   rw [e2]
   exact zGE (List.mem_of_getElem? e)
  have ord:π.Pairwise (fun i j=>cR cs i * cR ws j<=cR cs j * cR ws i):=by
   refine List.Pairwise.imp_of_mem (fun {i j} h1 h2 h3=>?_) ho
   have h4:((kz.getD i 0:Int):Rat)<=((kz.getD j 0:Int):Rat):=Rat.intCast_le_intCast.mpr h3
   rw [kat i (hm i h1),kat j (hm j h2)] at h4
   have h5:=Rat.le_of_mul_le_mul_right h4 B0'
   have wi:=pw i (hm i h1)
   have wj:=pw j (hm j h2)
   have h6:=Rat.mul_le_mul_of_nonneg_right h5 (Rat.le_of_lt (Rat.mul_pos wi wj))
   have e1:cR cs i / cR ws i * (cR ws i * cR ws j)=cR cs i * cR ws j:=by grind
   have e2:cR cs j / cR ws j * (cR ws i * cR ws j)=cR cs j * cR ws i:=by grind
   rwa [e1,e2] at h6
  have hW':wS ws π=ws.sum:=uW (by rw [hw];exact hp)
  have hC':fY (cR cs) π=(cs.sum:Rat):=by rw [kC,uW hp]
  have z0:q - ((0:Int):Rat)=q:=by rw [show ((0:Int):Rat)=0 from rfl];grind
  obtain ⟨t,t1,t2,tz,l',W',s',t',e⟩:=zC sw sc (qv:=.val (dq q)) hmm hW hcc hq π 0 0 (List.replicate cs.length (dq 0)) .un .un hm ord (by omega) (by rw [List.length_replicate]) (by decide) (by rw [hl];omega) (by rw [z0];exact h0) (by rw [z0,hC'];exact h1) (by rw [z0];grind)
  rw [z0,hW'] at e
  rw [z0] at t2
  refine ⟨t,t1,by rw [<-qO hp];exact t2,fun i h=>tz i (hp.mem_iff.mpr (List.mem_range.mpr h)),?_⟩
  refine (zHk (a:=fun ρ=>fP (gName 6) bO (hU π) ρ) e).trans ?_
  rw [zCP hp]
  rfl
 obtain ⟨π0,hπ0⟩:=zAe kz
 obtain ⟨t,t1,t2,tz,e0⟩:=one π0 hπ0
 have pw':∀ i∈List.range cs.length,0 < cR ws i:=fun i h=>pw i (List.mem_range.mp h)
 refine ⟨t,t1,?_,t2,tz⟩
 unfold cP
 walk_at "ev"
 rw [sw.sum]
 walk_at "ev"
 rw [sc.len]
 walk_at "ev"
 rw [zBT (by omega)]
 walk_at "ev"
 have hfs:Res.bind ((aE (eF (eI cZ (aE (aK 0) (aE (aK 1) aNil)))) aNil) [.val wd,.val cd,.val (dq q),.val (dq q),.val (.int ws.sum),.own (List.replicate cs.length (dq 0)),.un,.un]) gQ=.ok kz:=by
  walk_at "ev"
  rw [pP sw sc hW hi]
  walk_at "ev"
  exact hkr
 have hall:∀ π,fK kz π->bF (fun ρ=>fP (gName 6) bO (hU π) ρ) hZ [.val wd,.val cd,.val (dq q),.val (dq q),.val (.int ws.sum),.own (List.replicate cs.length (dq 0)),.un,.un]=.ok (.ret (.f ((evs ws cs t).map dq))):=fun π hπ=>by
  obtain ⟨u,_,u2,_,eu⟩:=one π hπ
  rw [eu]
  unfold evs
  rw [List.map_congr_left (vH pw' (u2.trans t2.symm))]
 unfold kU
 rw [zDb hfs hall]
 rfl
def ones (cs:List Int):List Int:=List.replicate cs.length 1
theorem gK (cs:List Int):Wt (ones cs) cs:=⟨List.length_replicate,fun w h=>by rw [(List.mem_replicate.mp h).2];decide,fun w h=>by rw [(List.mem_replicate.mp h).2];decide⟩
def hf:Rat:=Rat.divInt 1 2
theorem oC:hf=1 / 2:=by unfold hf;rw [Rat.divInt_eq_div];rfl
theorem zJw:d_HALF=dq hf:=zJG (b:=2) (by decide)
theorem zDr:Sz 2 hf:=Sz.of (by decide) (by decide) (by decide)
theorem dbl (q:Rat):q+q=q * ((2:Int):Rat):=by rw [show ((2:Int):Rat)=2 from rfl];grind
theorem zFk {q:Rat} {n:Nat} (h:Sz n q):Sz (n+2) (q+q):=by rw [dbl];exact h.mul (bZ (by decide) (by decide))
def hvs (cs:List Int) (t:Rat):List Rat:=(List.range cs.length).map fun i=>dN (cR cs) (cR (ones cs)) t i * hf
structure Lvl (M:Nat) (ws cs:List Int) (q t:Rat):Prop where
 nn:0<=t
 sum:(evs ws cs t).sum=q
 sz:∀ i,i < cs.length->Sz M (dN (cR cs) (cR ws) t i)
theorem yP {cs:List Int} {cd:D} (sc:Sq cd cs) {q:Rat} {m:Nat} (hm:m<=2990) (hc:Cl cs) (hq:Sz m q) (h0:0<=q) (h1:q+q<=(cs.sum:Rat)):∃ t,Lvl (m+157) (ones cs) cs (q+q) t/\eH [cd,dq q]=.ok (.f ((hvs cs t).map dq)):=by
 have hi:=hc.hi
 obtain ⟨t,t1,e,t2,tz⟩:=oI (wd:=.lst ((ones cs).map D.int)) (.inl rfl) sc (m:=m+2) (by omega) (gK cs) hc (zFk hq) (by grind) h1
 refine ⟨t,⟨t1,t2,fun i h=>(tz i h).mono (by omega)⟩,?_⟩
 have eo:(ones cs).map D.int=List.replicate cs.length (.int 1):=by unfold ones;rw [List.map_replicate]
 rw [eo] at e
 have hh:=zJw
 unfold d_HALF at hh
 unfold eH
 walk_at "ev"
 rw [sc.len]
 walk_at "ev"
 rw [zBT (by omega)]
 walk_at "ev"
 rw [zCl hq hq (by omega)]
 walk_at "ev"
 rw [e]
 walk_at "ev"
 rw [show (evs (ones cs) cs t).map dq=(List.range cs.length).map (fun i=>dq (dN (cR cs) (cR (ones cs)) t i)) by unfold evs;rw [List.map_map];rfl]
 rw [jD (u:=fun i=>dq (dN (cR cs) (cR (ones cs)) t i)) (g:=fun i=>dq (dN (cR cs) (cR (ones cs)) t i * hf)) (by rw [List.length_range];omega) (fun i h=>by
  have hil:=List.mem_range.mp h
  walk_at "ev"
  rw [hh,lC (tz i hil) zDr (by omega)]
  walk_at "ev")]
 walk_at "ev"
 unfold hvs
 rw [List.map_map]
 rfl
theorem Lvl.mono {M M':Nat} {ws cs:List Int} {q t:Rat} (h:Lvl M ws cs q t) (l:M<=M'):Lvl M' ws cs q t:=⟨h.nn,h.sum,fun i hi=>(h.sz i hi).mono l⟩
theorem qM {w v:Str} (h:aS.lookup w=some v):dE [.str w]=.ok (.v .non):=by
 unfold dE
 walk_at "ev"
 rw [h]
 rfl
theorem qL {cs:List Int} {cd:D} (sc:Sq cd cs) (hc:Cl cs):dD [cd]=.ok (.v .non):=by
 have lo:=hc.lo
 unfold dD
 walk_at "ev"
 rw [sc.len]
 walk_at "ev"
 rw [decide_eq_false (by omega)]
 walk_at "ev"
 rw [sc.seq]
 walk_at "ev"
 refine wF (Q:=fun r=>r=(.ok (.v .non):Res Rt)) (fun ρ=>∃ a,ρ=[.val cd,a]) ⟨_,rfl⟩ ?_ ?_
 ·rintro e ρ he ⟨a,rfl⟩
  obtain ⟨c,h,rfl⟩:=List.mem_map.mp he
  have:=hc.nn c h
  refine ⟨_,?_,.val (.int c),rfl⟩
  walk_at "ev"
  rw [decide_eq_false (by omega)]
  walk_at "ev"
 ·rintro ρ ⟨a,rfl⟩
  rfl
theorem jX {α β:Type} (l:List α) (f:Nat->β) (d:α):l.zip ((List.range l.length).map f)=(List.range l.length).map fun i=>(l.getD i d,f i):=by
 refine List.ext_getElem? fun i=>?_
 rw [List.getElem?_map]
 by_cases h:i < l.length
 ·rw [List.getElem?_range h]
  refine List.getElem?_zip_eq_some.mpr ⟨?_,by rw [List.getElem?_map,List.getElem?_range h];rfl⟩
  show l[i]?=some (l.getD i d)
  rw [List.getD_eq_getElem?_getD,List.getElem?_eq_getElem h];rfl
 ·rw [List.getElem?_eq_none (by rw [List.length_zip];omega),List.getElem?_eq_none (by rw [List.length_range];omega)];rfl
theorem gX {w:Str} {d:D} {n:Int} (hd:d=.lst []∨d=.tup []) (hw:oIn (.str w) d_WEIGHTED=.ok (.bl false)):bJ [.str w,d,.int n]=.ok (.v .non):=by
 have sq:zHh d=.ok []:=by rcases hd with rfl | rfl<;>rfl
 have ln:kZ [d]=.ok (.int 0):=by rcases hd with rfl | rfl<;>rfl
 unfold d_WEIGHTED at hw
 unfold bJ
 walk_at "ev"
 rw [hw]
 walk_at "ev"
 rw [ln]
 walk_at "ev"
 rw [sq]
 rfl
theorem zNf:rR 10 6=true:=by decide
theorem nF {w:Str} {ws cs:List Int} {wd:D} (sw:Sq wd ws) (hW:Wt ws cs) (hw:oIn (.str w) d_WEIGHTED=.ok (.bl true)):bJ [.str w,wd,.int cs.length]=.ok (.v .non):=by
 have hl:=hW.len
 unfold d_WEIGHTED at hw
 unfold bJ
 walk_at "ev"
 rw [hw]
 walk_at "ev"
 rw [sw.len]
 walk_at "ev"
 rw [hl,decide_eq_true rfl]
 walk_at "ev"
 rw [sw.seq]
 walk_at "ev"
 refine wF (Q:=fun r=>r=(.ok (.v .non):Res Rt)) (fun ρ=>∃ a,ρ=[.val (.str w),.val wd,.val (.int cs.length),.val (.int cs.length),a]) ⟨_,rfl⟩ ?_ ?_
 ·rintro e ρ he ⟨a,rfl⟩
  obtain ⟨c,h,rfl⟩:=List.mem_map.mp he
  have h1:=hW.lo c h
  have h2:=hW.up c h
  refine ⟨_,?_,.val (.int c),rfl⟩
  walk_at "ev"
  rw [decide_eq_false (by omega)]
  walk_at "ev"
  rw [oPow_i zNf]
  walk_at "ev"
  rw [decide_eq_false (by omega)]
  walk_at "ev"
 ·rintro ρ ⟨a,rfl⟩
  rfl
theorem zMM:(Str.ofString "even" == Str.ofString "row")=false:=by decide
theorem zMZ:(Str.ofString "lack" == Str.ofString "row")=false:=by decide
theorem zML:(Str.ofString "lack" == Str.ofString "even")=false:=by decide
theorem zMC:(Str.ofString "lack" == Str.ofString "part")=false:=by decide
theorem zMF:(Str.ofString "lack" == Str.ofString "half")=false:=by decide
theorem zCi:(aS.lookup (Str.ofString "even"))=some (Str.ofString "lack"):=by decide
theorem uP:(aS.lookup (Str.ofString "lack"))=some (Str.ofString "even"):=by decide
theorem zGV {n:Nat} {ws cs:List Int} {wd cd:D} (sw:Sq wd ws) (sc:Sq cd cs) {q:Rat} {m:Nat} (hm:m<=3000) (hW:Wt ws cs) (hc:Cl cs) (hq:Sz m q) (h0:0<=q) (h1:q<=(cs.sum:Rat)):∃ t,Lvl (m+155) ws cs q t/\aN (n+1) [.str (Str.ofString "even"),wd,cd,dq q]=.ok (.f ((evs ws cs t).map dq)):=by
 obtain ⟨t,t1,e,t2,tz⟩:=oI sw sc hm hW hc hq h0 h1
 refine ⟨t,⟨t1,t2,tz⟩,?_⟩
 show aP (aN n) _=_
 unfold aP
 walk_at "ev"
 rw [sc.sum]
 walk_at "ev"
 rw [bW]
 walk_at "ev"
 rw [zMM]
 walk_at "ev"
 rw [e]
 walk_at "ev"
def lks (ws cs:List Int) (t:Rat):List Rat:=(cs.zip (evs ws cs t)).map fun p=>(p.1:Rat) - p.2
theorem zJN (ws cs:List Int) (t:Rat):lks ws cs t=(List.range cs.length).map fun i=>cR cs i - dN (cR cs) (cR ws) t i:=by
 unfold lks evs
 rw [jX cs _ 0,List.map_map]
 rfl
theorem zKr {n:Nat} {ws cs:List Int} {wd cd:D} (sw:Sq wd ws) (sc:Sq cd cs) {q:Rat} {m:Nat} (hm:m<=2890) (hW:Wt ws cs) (hc:Cl cs) (hq:Haul m q cs.sum):∃ t,Lvl (m+261) ws cs ((cs.sum:Rat) - q) t/\aN (n+2) [.str (Str.ofString "lack"),wd,cd,dq q]=.ok (.f ((lks ws cs t).map dq)):=by
 have sm:=hc.sum
 have hi:=hc.hi
 have zW:Sz 105 (cs.sum:Rat):=bZ (by omega) (by decide)
 have zT:Sz (m+106) ((cs.sum:Rat) - q):=(zW.sub hq.sz).mono (by omega)
 have u:=hq.up
 have u':=hq.nn
 obtain ⟨t,tl,e⟩:=zGV sw sc (n:=n) (m:=m+106) (by omega) hW hc zT (by grind) (by grind)
 refine ⟨t,tl,?_⟩
 show aP (aN (n+1)) _=_
 unfold aP
 walk_at "ev"
 rw [sc.sum]
 walk_at "ev"
 rw [bW]
 walk_at "ev"
 rw [zMZ]
 walk_at "ev"
 rw [zML]
 walk_at "ev"
 rw [zMC]
 walk_at "ev"
 rw [zMF]
 walk_at "ev"
 rw [show rO aS (.str (Str.ofString "lack"))=.ok (.str (Str.ofString "even")) by show zJo (aS.lookup (Str.ofString "lack"))=_;rw [uP];rfl]
 walk_at "ev"
 rw [fB zW hq.sz (by omega)]
 walk_at "ev"
 rw [e]
 walk_at "ev"
 rw [oE sc.seqo rfl]
 walk_at "ev"
 rw [iI (u:=D.int) (v:=dq) (g:=fun c l=>dq ((c:Rat) - l)) (by omega) (fun p hp=>by
  have hp':=hp
  unfold evs at hp'
  rw [jX cs _ 0] at hp'
  obtain ⟨i,hir,rfl⟩:=List.mem_map.mp hp'
  have hil:=List.mem_range.mp hir
  have c1:=hc.nn _ (List.mem_of_getElem? (bE hil))
  have c2:=hc.up _ (List.mem_of_getElem? (bE hil))
  walk_at "ev"
  rw [bW]
  walk_at "ev"
  rw [fB (m:=100) (n:=m+261) (bZ (by omega) (by decide)) (tl.sz i hil) (by omega)]
  walk_at "ev")]
 walk_at "ev"
 unfold lks
 rw [List.map_map]
 rfl
theorem zMq:(Str.ofString "half" == Str.ofString "row")=false:=by decide
theorem zMo:(Str.ofString "half" == Str.ofString "even")=false:=by decide
theorem zLK:(Str.ofString "half" == Str.ofString "part")=false:=by decide
theorem uN:(aS.lookup (Str.ofString "half"))=some (Str.ofString "half"):=by decide
theorem zFa {n:Nat} {e:D} {cs:List Int} {cd:D} (sc:Sq cd cs) {q:Rat} {m:Nat} (hm:m<=2990) (hc:Cl cs) (hq:Sz m q) (h0:0<=q) (h1:q+q<=(cs.sum:Rat)):∃ t,Lvl (m+157) (ones cs) cs (q+q) t/\aN (n+1) [.str (Str.ofString "half"),e,cd,dq q]=.ok (.f ((hvs cs t).map dq)):=by
 have sm:=hc.sum
 have zW:Sz 105 (cs.sum:Rat):=bZ (by omega) (by decide)
 obtain ⟨t,tl,ee⟩:=yP sc hm hc hq h0 h1
 refine ⟨t,tl,?_⟩
 show aP (aN n) _=_
 unfold aP
 walk_at "ev"
 rw [sc.sum]
 walk_at "ev"
 rw [bW]
 walk_at "ev"
 rw [zMq]
 walk_at "ev"
 rw [zMo]
 walk_at "ev"
 rw [zLK]
 walk_at "ev"
 rw [zCl hq hq (by omega)]
 walk_at "ev"
 rw [qD zW (zFk hq) (by omega),decide_eq_false (Rat.not_lt.mpr h1)]
 walk_at "ev"
 rw [ee]
 walk_at "ev"
def lhs (cs:List Int) (t:Rat):List Rat:=(List.range cs.length).map fun i=>cR cs i - dN (cR cs) (cR (ones cs)) t i * hf
theorem zHR {n:Nat} {e:D} {cs:List Int} {cd:D} (sc:Sq cd cs) {q:Rat} {m:Nat} (hm:m<=2880) (hc:Cl cs) (hq:Haul m q cs.sum) (h1:(cs.sum:Rat) < q+q):∃ t,Lvl (m+263) (ones cs) cs (((cs.sum:Rat) - q)+((cs.sum:Rat) - q)) t/\aN (n+2) [.str (Str.ofString "half"),e,cd,dq q]=.ok (.f ((lhs cs t).map dq)):=by
 have sm:=hc.sum
 have hi:=hc.hi
 have zW:Sz 105 (cs.sum:Rat):=bZ (by omega) (by decide)
 have zT:Sz (m+106) ((cs.sum:Rat) - q):=(zW.sub hq.sz).mono (by omega)
 have u:=hq.up
 obtain ⟨t,tl,ee⟩:=zFa sc (n:=n) (e:=e) (m:=m+106) (by omega) hc zT (by grind) (by grind)
 refine ⟨t,tl,?_⟩
 show aP (aN (n+1)) _=_
 unfold aP
 walk_at "ev"
 rw [sc.sum]
 walk_at "ev"
 rw [bW]
 walk_at "ev"
 rw [zMq]
 walk_at "ev"
 rw [zMo]
 walk_at "ev"
 rw [zLK]
 walk_at "ev"
 rw [zCl hq.sz hq.sz (by omega)]
 walk_at "ev"
 rw [qD zW (zFk hq.sz) (by omega),decide_eq_true h1]
 walk_at "ev"
 rw [show rO aS (.str (Str.ofString "half"))=.ok (.str (Str.ofString "half")) by show zJo (aS.lookup (Str.ofString "half"))=_;rw [uN];rfl]
 walk_at "ev"
 rw [fB zW hq.sz (by omega)]
 walk_at "ev"
 rw [ee]
 walk_at "ev"
 rw [oE sc.seqo rfl]
 walk_at "ev"
 rw [iI (u:=D.int) (v:=dq) (g:=fun c l=>dq ((c:Rat) - l)) (by omega) (fun p hp=>by
  have hp':=hp
  unfold hvs at hp'
  rw [jX cs _ 0] at hp'
  obtain ⟨i,hir,rfl⟩:=List.mem_map.mp hp'
  have hil:=List.mem_range.mp hir
  have c1:=hc.nn _ (List.mem_of_getElem? (bE hil))
  have c2:=hc.up _ (List.mem_of_getElem? (bE hil))
  walk_at "ev"
  rw [bW]
  walk_at "ev"
  rw [fB (m:=100) (n:=m+263+2) (bZ (by omega) (by decide)) ((tl.sz i hil).mul zDr) (by omega)]
  walk_at "ev")]
 walk_at "ev"
 unfold hvs lhs
 rw [jX cs _ 0,List.map_map,List.map_map]
 rfl
theorem zMB:(Str.ofString "back" == Str.ofString "row")=false:=by decide
theorem zMS:(Str.ofString "back" == Str.ofString "even")=false:=by decide
theorem zMJ:(Str.ofString "back" == Str.ofString "part")=false:=by decide
theorem zMU:(Str.ofString "back" == Str.ofString "half")=false:=by decide
theorem zNa:(Str.ofString "part" == Str.ofString "row")=false:=by decide
theorem zMK:(Str.ofString "part" == Str.ofString "even")=false:=by decide
theorem zDN:(aS.lookup (Str.ofString "row"))=some (Str.ofString "back"):=by decide
theorem wC:(aS.lookup (Str.ofString "back"))=some (Str.ofString "row"):=by decide
theorem zBS:(aS.lookup (Str.ofString "part"))=some (Str.ofString "part"):=by decide
theorem zJt {n:Nat} {d e:D} {cs:List Int} {q:Rat} (hd:d=.lst (cs.map D.int)∨d=.tup (cs.map D.int)) {m:Nat} (hm:m<=3000) (hc:Cl cs) (hq:Sz m q) (h0:0<=q):aN (n+1) [.str (Str.ofString "row"),e,d,dq q]=.ok (.f ((gH cs 0 q).map dq)):=by
 have su:xI [d]=.ok (.int cs.sum):=by rcases hd with rfl | rfl;exact bSum_l;exact bSum_t
 show aP (aN n) _=_
 unfold aP
 walk_at "ev"
 rw [su]
 walk_at "ev"
 rw [bW]
 walk_at "ev"
 rw [zBd hd hm hc hq h0]
 walk_at "ev"
theorem zJF {n:Nat} {d e:D} {cs:List Int} {q:Rat} (hd:d=.lst (cs.map D.int)∨d=.tup (cs.map D.int)) {m:Nat} (hm:m<=3000) (hc:Cl cs) (hq:Sz m q):aN (n+1) [.str (Str.ofString "part"),e,d,dq q]=.ok (.f ((vL cs q).map dq)):=by
 have su:xI [d]=.ok (.int cs.sum):=by rcases hd with rfl | rfl;exact bSum_l;exact bSum_t
 show aP (aN n) _=_
 unfold aP
 walk_at "ev"
 rw [su]
 walk_at "ev"
 rw [bW]
 walk_at "ev"
 rw [zNa]
 walk_at "ev"
 rw [zMK]
 walk_at "ev"
 rw [yC hd hm hc hq]
 walk_at "ev"
theorem zGz (f g:Nat->Rat):∀ n:Nat,((List.range n).map fun i=>f i - g i).sum=((List.range n).map f).sum - ((List.range n).map g).sum
 | 0=>by simp only [List.range_zero,List.map_nil,List.sum_nil];grind
 | n+1=>by
  rw [List.range_succ,List.map_append,List.map_append,List.map_append,List.sum_append,List.sum_append,List.sum_append,zGz f g n]
  simp only [List.map_cons,List.map_nil,List.sum_cons,List.sum_nil]
  grind
theorem oP (cs:List Int):((List.range cs.length).map (cR cs)).sum=(cs.sum:Rat):=by
 have e:=kC cs (List.range cs.length)
 rw [vD cs _ (Nat.le_refl _),List.take_length] at e
 exact e
theorem lA {ws cs:List Int} {t:Rat} (hW:Wt ws cs) (hc:Cl cs) (h0:0<=t) {i:Nat} (hi:i < cs.length):0<=dN (cR cs) (cR ws) t i/\dN (cR cs) (cR ws) t i<=cR cs i:=by
 have w:=(hW.at hi).1
 have c:=hc.nn _ (List.mem_of_getElem? (bE hi))
 have w':(0:Rat)<=cR ws i:=by unfold cR;exact_mod_cast (show 0<=ws.getD i 0 by omega)
 have c':(0:Rat)<=cR cs i:=by unfold cR;exact_mod_cast c
 have:=Rat.mul_nonneg w' h0
 unfold dN mn
 grind
theorem zBv (l:List Int):dep (.lst (l.map D.int))<=2:=by
 have:depS (l.map D.int)<=1:=by
  induction l with
  | nil=>exact Nat.zero_le _
  | cons a l ih=>rw [List.map_cons];show max 0 (depS (l.map D.int))<=1;omega
 show depS (l.map D.int)+1<=2
 omega
theorem zJy (x:Rat):(x.num:Rat)=x * ((x.den:Int):Rat):=by
 have d0:=iF x
 have nd:((x.den:Int):Rat)≠0:=fun z=>by
  have:(x.den:Int)=0:=by exact_mod_cast z
  omega
 have h1:=Rat.num_divInt_den x
 rw [Rat.divInt_eq_div] at h1
 rw [<-Rat.div_mul_cancel (a:=(x.num:Rat)) nd,h1]
theorem zEu {l:List Rat} {n:Nat} (h:l.length=n):l=(List.range n).map fun i=>l.getD i 0:=by
 refine List.ext_getElem? fun i=>?_
 rw [List.getElem?_map]
 by_cases hi:i < n
 ·rw [List.getElem?_range hi,List.getElem?_eq_getElem (by omega)]
  show _=some (l.getD i 0)
  rw [List.getD_eq_getElem?_getD,List.getElem?_eq_getElem (by omega)];rfl
 ·rw [List.getElem?_eq_none (by omega),List.getElem?_eq_none (by rw [List.length_range];omega)];rfl
def zAd (cs:List Int) (q:Rat) (i:Nat):Rat:=(gH cs 0 q).getD i 0
theorem zDQ:∀ (cs:List Int) (a:Int) (q:Rat) (i:Nat),(∀ c∈cs,0<=c)->i < cs.length->0<=(gH cs a q).getD i 0/\(gH cs a q).getD i 0<=cR cs i
 | c::r,a,q,0,h,_=>by
  have c0:(0:Rat)<=(c:Rat):=by exact_mod_cast h c List.mem_cons_self
  show 0<=mn (ps0 (q - (a:Rat))) (c:Rat)/\mn (ps0 (q - (a:Rat))) (c:Rat)<=(c:Rat)
  unfold mn ps0
  grind
 | c::r,a,q,i+1,h,hi=>zDQ r (a+c) q i (fun x hx=>h x (List.mem_cons_of_mem _ hx)) (by rw [List.length_cons] at hi;omega)
theorem rP:∀ (cs:List Int) (a:Int) {q q':Rat} (i:Nat),q<=q'->(gH cs a q).getD i 0<=(gH cs a q').getD i 0
 | [],_,_,_,_,_=>Rat.le_refl
 | c::r,a,q,q',0,h=>by
  show mn (ps0 (q - (a:Rat))) (c:Rat)<=mn (ps0 (q' - (a:Rat))) (c:Rat)
  unfold mn ps0
  grind
 | c::r,a,q,q',i+1,h=>rP r (a+c) i h
theorem zCd:∀ (cs:List Int) (a:Int) (q:Rat),(∀ c∈cs,0<=c)->0<=cs.sum/\(gH cs a q).sum=mn (ps0 (q - (a:Rat))) (cs.sum:Rat)
 | [],a,q,_=>⟨Int.le_refl _,by show (0:Rat)=mn (ps0 _) ((0:Int):Rat);rw [show ((0:Int):Rat)=0 from rfl];unfold mn ps0;grind⟩
 | c::r,a,q,h=>by
  have c0:=h c List.mem_cons_self
  obtain ⟨s0,e⟩:=zCd r (a+c) q fun x hx=>h x (List.mem_cons_of_mem _ hx)
  have c0':(0:Rat)<=(c:Rat):=by exact_mod_cast c0
  have s0':(0:Rat)<=(r.sum:Rat):=by exact_mod_cast s0
  rw [List.sum_cons]
  refine ⟨by omega,?_⟩
  rw [gH,List.sum_cons,e,Rat.intCast_add,Rat.intCast_add]
  unfold mn ps0
  grind
theorem zDt {q:Rat} {m:Nat} (hq:Sz m q):∀ (cs:List Int) (a:Int),(∀ c∈cs,0<=c)->(∀ c∈cs,c < 10^30)->0<=a->a+cs.length * 10^30 < 2^110->∀ x∈gH cs a q,Sz (m+111) x
 | [],_,_,_,_,_,x,hx=>by cases hx
 | c::r,a,h1,h2,h3,h4,x,hx=>by
  have c0:=h1 c List.mem_cons_self
  have c1:=h2 c List.mem_cons_self
  rw [List.length_cons] at h4
  have e4:((r.length+1:Nat):Int) * 10^30=(r.length:Int) * 10^30+10^30:=by rw [Int.natCast_add,Int.add_mul];rfl
  have r0:0<=(r.length:Int) * 10^30:=Int.mul_nonneg (by omega) (by decide)
  rw [gH] at hx
  rcases List.mem_cons.mp hx with rfl | hx
  ·exact zJh (zKw (hq.sub (bZ (n:=110) (by omega) (by decide))) (by omega)) (Sz.mono (m:=100) (bZ (by omega) (by decide)) (by omega))
  ·exact zDt hq r (a+c) (fun x hx=>h1 x (List.mem_cons_of_mem _ hx)) (fun x hx=>h2 x (List.mem_cons_of_mem _ hx)) (by omega) (by omega) x hx
theorem zAv {cs:List Int} {q:Rat} {m:Nat} (hc:Cl cs) (hq:Sz m q) (h0:0<=q) (h1:q<=(cs.sum:Rat)):(gH cs 0 q=(List.range cs.length).map (zAd cs q))/\(gH cs 0 q).sum=q/\∀ x∈gH cs 0 q,Sz (m+111) x:=by
 have hi:=hc.hi
 refine ⟨zEu (xD _ _ _),?_,zDt hq cs 0 hc.nn hc.up (by decide) (by omega)⟩
 rw [(zCd cs 0 q hc.nn).2,show ((0:Int):Rat)=0 from rfl]
 unfold mn ps0
 grind
theorem zKL {n:Nat} {e:D} {cs:List Int} {cd:D} (sc:Sq cd cs) {q:Rat} {m:Nat} (hm:m<=2890) (hc:Cl cs) (hq:Haul m q cs.sum):aN (n+2) [.str (Str.ofString "back"),e,cd,dq q]=.ok (.f (((List.range cs.length).map fun i=>cR cs i - zAd cs ((cs.sum:Rat) - q) i).map dq)):=by
 have sm:=hc.sum
 have hi:=hc.hi
 have zW:Sz 105 (cs.sum:Rat):=bZ (by omega) (by decide)
 have zT:Sz (m+106) ((cs.sum:Rat) - q):=(zW.sub hq.sz).mono (by omega)
 have u:=hq.up
 have u':=hq.nn
 obtain ⟨r1,r2,r3⟩:=zAv hc zT (by grind) (by grind)
 have ee:=zJt (n:=n) (e:=e) sc (m:=m+106) (by omega) hc zT (by grind)
 show aP (aN (n+1)) _=_
 unfold aP
 walk_at "ev"
 rw [sc.sum]
 walk_at "ev"
 rw [bW]
 walk_at "ev"
 rw [zMB]
 walk_at "ev"
 rw [zMS]
 walk_at "ev"
 rw [zMJ]
 walk_at "ev"
 rw [zMU]
 walk_at "ev"
 rw [show rO aS (.str (Str.ofString "back"))=.ok (.str (Str.ofString "row")) by show zJo (aS.lookup (Str.ofString "back"))=_;rw [wC];rfl]
 walk_at "ev"
 rw [fB zW hq.sz (by omega)]
 walk_at "ev"
 rw [ee]
 walk_at "ev"
 rw [oE sc.seqo rfl]
 walk_at "ev"
 rw [iI (u:=D.int) (v:=dq) (g:=fun c l=>dq ((c:Rat) - l)) (by omega) (fun p hp=>by
  obtain ⟨p1,p2⟩:=List.of_mem_zip hp
  have c1:=hc.nn _ p1
  have c2:=hc.up _ p1
  walk_at "ev"
  rw [bW]
  walk_at "ev"
  rw [fB (m:=100) (n:=m+106+111) (bZ (by omega) (by decide)) (r3 _ p2) (by omega)]
  walk_at "ev")]
 walk_at "ev"
 rw [r1,jX cs _ 0,List.map_map,List.map_map]
 rfl
def iJ (cs:List Int) (q:Rat) (i:Nat):Rat:=(vL cs q).getD i 0
theorem zCh {cs:List Int} {q:Rat} {i:Nat} (hi:i < cs.length):iJ cs q i=Rat.divInt (cs.getD i 0 * q.num) (max 1 cs.sum * q.den):=by
 unfold iJ vL
 rw [List.getD_eq_getElem?_getD,List.getElem?_map,bE hi]
 rfl
theorem kG {cs:List Int} {q:Rat} (hc:Cl cs) {i:Nat} (hi:i < cs.length):iJ cs q i * (cs.sum:Rat)=q * cR cs i/\(cs.sum=0->iJ cs q i=0):=by
 have sm:=hc.sum
 have e:=zCh (q:=q) hi
 by_cases z:cs.sum=0
 ·have c0:=mV hc.nn z _ (List.mem_of_getElem? (bE hi))
  have p0:iJ cs q i=0:=by rw [e,c0,Int.zero_mul,Rat.zero_divInt]
  refine ⟨?_,fun _=>p0⟩
  rw [p0]
  unfold cR
  rw [c0,show ((0:Int):Rat)=0 from rfl]
  grind
 ·have W0:0 < cs.sum:=by omega
  have nW:(cs.sum:Rat)≠0:=fun y=>by
   have:cs.sum=0:=by exact_mod_cast y
   omega
  refine ⟨?_,fun y=>absurd y z⟩
  rw [e,Int.max_eq_right (by omega),<-zDK W0]
  show q / (cs.sum:Rat) * cR cs i * (cs.sum:Rat)=_
  grind
theorem zED {cs:List Int} {q:Rat} {m:Nat} (hc:Cl cs) (hq:Sz m q) {i:Nat} (hi:i < cs.length):Sz (m+370) (iJ cs q i):=by
 have sm:=hc.sum
 have c1:=hc.nn _ (List.mem_of_getElem? (bE hi))
 have c2:=hc.up _ (List.mem_of_getElem? (bE hi))
 rw [zCh hi]
 have d0:=iF q
 have p:=Int.mul_pos (show 0 < max 1 cs.sum by omega) d0
 exact Sz.of (by omega) (Nat.lt_of_lt_of_le (eA (m:=100) (n:=m) (by omega) hq.1) (Nat.pow_le_pow_right (by decide) (by omega))) (Nat.lt_of_lt_of_le (eA (m:=110) (n:=m) (by omega) hq.d) (Nat.pow_le_pow_right (by decide) (by omega)))
inductive Wy where
 | row | back | even | lack | part | half
def Wy.s:Wy->Str
 | .row=>Str.ofString "row"
 | .back=>Str.ofString "back"
 | .even=>Str.ofString "even"
 | .lack=>Str.ofString "lack"
 | .part=>Str.ofString "part"
 | .half=>Str.ofString "half"
def Wy.due (w:Wy) (ws cs:List Int):Prop:=match w with
 | .even=>Wt ws cs
 | .lack=>Wt ws cs
 | _=>ws=[]
def Al (M:Nat) (ws cs:List Int) (q:Rat) (f:Nat->Rat):Wy->Prop
 | .row=>∀ i,i < cs.length->f i=zAd cs q i
 | .back=>∀ i,i < cs.length->f i=cR cs i - zAd cs ((cs.sum:Rat) - q) i
 | .even=>∃ t,Lvl M ws cs q t/\∀ i,i < cs.length->f i=dN (cR cs) (cR ws) t i
 | .lack=>∃ t,Lvl M ws cs ((cs.sum:Rat) - q) t/\∀ i,i < cs.length->f i=cR cs i - dN (cR cs) (cR ws) t i
 | .part=>∀ i,i < cs.length->f i=iJ cs q i
 | .half=>∃ t,(q+q<=(cs.sum:Rat)/\Lvl M (ones cs) cs (q+q) t/\∀ i,i < cs.length->f i=dN (cR cs) (cR (ones cs)) t i * hf)∨((cs.sum:Rat) < q+q/\Lvl M (ones cs) cs (((cs.sum:Rat) - q)+((cs.sum:Rat) - q)) t/\∀ i,i < cs.length->f i=cR cs i - dN (cR cs) (cR (ones cs)) t i * hf)
theorem zEm {w:Wy} {ws cs:List Int} {wd cd:D} (sw:Sq wd ws) (sc:Sq cd cs) {q:Rat} {m:Nat} (hm:m<=2880) (hw:w.due ws cs) (hc:Cl cs) (hq:Haul m q cs.sum):∃ f,aN 2 [.str w.s,wd,cd,dq q]=.ok (.f (((List.range cs.length).map f).map dq))/\Al (m+263) ws cs q f w:=by
 have z:=hq.sz
 cases w with
 | row=>exact ⟨zAd cs q,by rw [<-(zAv hc z hq.nn hq.up).1];exact zJt sc (by omega) hc z hq.nn,fun i _=>rfl⟩
 | back=>exact ⟨_,zKL sc (by omega) hc hq,fun i _=>rfl⟩
 | even=>
  obtain ⟨t,tl,e⟩:=zGV sw sc (n:=1) (by omega) hw hc z hq.nn hq.up
  exact ⟨_,e,t,tl.mono (by omega),fun i _=>rfl⟩
 | lack=>
  obtain ⟨t,tl,e⟩:=zKr sw sc (n:=0) (by omega) hw hc hq
  rw [zJN] at e
  exact ⟨_,e,t,tl.mono (by omega),fun i _=>rfl⟩
 | part=>
  refine ⟨iJ cs q,?_,fun i _=>rfl⟩
  have e:vL cs q=(List.range cs.length).map (iJ cs q):=zEu (by unfold vL;rw [List.length_map])
  rw [<-e]
  exact zJF sc (by omega) hc z
 | half=>
  by_cases h:(cs.sum:Rat) < q+q
  ·obtain ⟨t,tl,e⟩:=zHR sc (n:=0) (e:=wd) (by omega) hc hq h
   exact ⟨_,e,t,.inr ⟨h,tl,fun i _=>rfl⟩⟩
  ·obtain ⟨t,tl,e⟩:=zFa sc (n:=1) (e:=wd) (by omega) hc z hq.nn (Rat.not_lt.mp h)
   exact ⟨_,e,t,.inl ⟨Rat.not_lt.mp h,tl.mono (by omega),fun i _=>rfl⟩⟩
theorem zIT (w:Wy):∃ v,aS.lookup w.s=some v:=by
 cases w
 ·exact ⟨_,zDN⟩
 ·exact ⟨_,wC⟩
 ·exact ⟨_,zCi⟩
 ·exact ⟨_,uP⟩
 ·exact ⟨_,zBS⟩
 ·exact ⟨_,uN⟩
theorem zFL {w:Wy} {ws cs:List Int} {wd cd:D} (sw:Sq wd ws) (sc:Sq cd cs) (hw:w.due ws cs) (hc:Cl cs):nH [.str w.s,wd,cd]=.ok (.v .non):=by
 have rw':bJ [.str w.s,wd,.int cs.length]=.ok (.v .non):=by
  cases w with
  | even=>exact nF sw hw rfl
  | lack=>exact nF sw hw rfl
  | row=>have e:ws=[]:=hw;rw [e] at sw;exact gX sw rfl
  | back=>have e:ws=[]:=hw;rw [e] at sw;exact gX sw rfl
  | part=>have e:ws=[]:=hw;rw [e] at sw;exact gX sw rfl
  | half=>have e:ws=[]:=hw;rw [e] at sw;exact gX sw rfl
 obtain ⟨v,hv⟩:=zIT w
 unfold nH
 walk_at "ev"
 rw [qM hv]
 walk_at "ev"
 rw [qL sc hc]
 walk_at "ev"
 rw [sc.len]
 walk_at "ev"
 rw [rw']
 walk_at "ev"
structure Dl (M:Nat) (cs:List Int) (q:Rat) (f:Nat->Rat):Prop where
 bd:∀ i,i < cs.length->0<=f i/\f i<=cR cs i/\Sz M (f i)
 sum:((List.range cs.length).map f).sum=q
theorem xP {f g:Nat->Rat} {n:Nat} (h:∀ i,i < n->f i=g i):((List.range n).map f).sum=((List.range n).map g).sum:=by rw [List.map_congr_left fun i hi=>h i (List.mem_range.mp hi)]
theorem Dl.congr {M:Nat} {cs:List Int} {q:Rat} {f g:Nat->Rat} (d:Dl M cs q g) (h:∀ i,i < cs.length->f i=g i):Dl M cs q f:=⟨fun i hi=>by rw [h i hi];exact d.bd i hi,by rw [xP h];exact d.sum⟩
theorem Dl.mono {M M':Nat} {cs:List Int} {q:Rat} {f:Nat->Rat} (d:Dl M cs q f) (h:M<=M'):Dl M' cs q f:=⟨fun i hi=>⟨(d.bd i hi).1,(d.bd i hi).2.1,(d.bd i hi).2.2.mono h⟩,d.sum⟩
theorem zGq {cs:List Int} (hc:Cl cs) {i:Nat} (hi:i < cs.length):0<=cR cs i/\Sz 100 (cR cs i):=by
 have c1:=hc.nn _ (List.mem_of_getElem? (bE hi))
 have c2:=hc.up _ (List.mem_of_getElem? (bE hi))
 exact ⟨by unfold cR;exact_mod_cast c1,bZ (by omega) (by decide)⟩
theorem Dl.dual {M:Nat} {cs:List Int} {q q':Rat} {g:Nat->Rat} (hc:Cl cs) (d:Dl M cs q' g) (h:q'=(cs.sum:Rat) - q):Dl (100+M+1) cs q (fun i=>cR cs i - g i):=by
 refine ⟨fun i hi=>?_,?_⟩
 ·obtain ⟨b1,b2,b3⟩:=d.bd i hi
  exact ⟨by grind,by grind,(zGq hc hi).2.sub b3⟩
 ·rw [zGz,oP,d.sum]
  grind
theorem zGy {m:Nat} {cs:List Int} {q:Rat} (hc:Cl cs) (hq:Sz m q) (h0:0<=q) (h1:q<=(cs.sum:Rat)):Dl (m+111) cs q (zAd cs q):=by
 obtain ⟨e,s,z⟩:=zAv hc hq h0 h1
 refine ⟨fun i hi=>?_,by rw [<-e];exact s⟩
 obtain ⟨b1,b2⟩:=zDQ cs 0 q i hc.nn hi
 exact ⟨b1,b2,z _ (by rw [e];exact List.mem_map.mpr ⟨i,List.mem_range.mpr hi,rfl⟩)⟩
theorem zGZ {M:Nat} {ws cs:List Int} {q t:Rat} (hW:Wt ws cs) (hc:Cl cs) (tl:Lvl M ws cs q t):Dl M cs q (dN (cR cs) (cR ws) t):=
 ⟨fun i hi=>⟨(lA hW hc tl.nn hi).1,(lA hW hc tl.nn hi).2,tl.sz i hi⟩,tl.sum⟩
theorem zEQ {M:Nat} {cs:List Int} {q t:Rat} (hc:Cl cs) (tl:Lvl M (ones cs) cs (q+q) t):Dl (M+2) cs q (fun i=>dN (cR cs) (cR (ones cs)) t i * hf):=by
 refine ⟨fun i h=>?_,?_⟩
 ·obtain ⟨b1,b2⟩:=lA (gK cs) hc tl.nn h
  exact ⟨by rw [oC];grind,by rw [oC];grind,(tl.sz i h).mul zDr⟩
 ·have e:=tl.sum
  have e2:=cW (w:=dN (cR cs) (cR (ones cs)) t) (t:=hf) (l:=List.range cs.length)
  unfold evs at e
  unfold fY at e2
  rw [e2,e,oC]
  grind
theorem zIY {a b s:Rat} (hs:s≠0) (h:a * s=b * s):a=b:=by
 have e1:a * s / s=a:=by grind
 have e2:b * s / s=b:=by grind
 rw [<-e1,<-e2,h]
theorem rV {a b s:Rat} (hs:0 < s) (h:a * s<=b * s):a<=b:=Rat.le_of_mul_le_mul_right h hs
theorem zIo {m:Nat} {cs:List Int} {q:Rat} (hc:Cl cs) (hq:Sz m q) (h0:0<=q) (h1:q<=(cs.sum:Rat)):Dl (m+370) cs q (iJ cs q):=by
 have sm:=hc.sum
 have cn:∀ i,i < cs.length->0<=cR cs i:=fun i hi=>(zGq hc hi).1
 have sc:fY (fun i=>iJ cs q i * (cs.sum:Rat)) (List.range cs.length)=q * (cs.sum:Rat):=by
  rw [dM (g:=fun i=>cR cs i * q) fun i hi=>by rw [(kG hc (List.mem_range.mp hi)).1];grind]
  rw [cW,show fY (cR cs) (List.range cs.length)=(cs.sum:Rat) from oP cs]
 rw [cW] at sc
 by_cases z:cs.sum=0
 ·have p0:∀ i,i < cs.length->iJ cs q i=cR cs i:=fun i hi=>by
   have c0:=mV hc.nn z _ (List.mem_of_getElem? (bE hi))
   rw [(kG hc hi).2 z]
   unfold cR
   rw [c0]
   rfl
  refine ⟨fun i hi=>⟨by rw [p0 i hi];exact cn i hi,by rw [p0 i hi];exact Rat.le_refl,zED hc hq hi⟩,?_⟩
  rw [xP p0,oP]
  have:(cs.sum:Rat)=0:=by rw [z];rfl
  grind
 ·have W:(0:Rat) < (cs.sum:Rat):=by exact_mod_cast (show 0 < cs.sum by omega)
  refine ⟨fun i hi=>?_,?_⟩
  ·have e:=(kG (q:=q) hc hi).1
   have c0:=cn i hi
   refine ⟨rV W (by rw [e];have:=Rat.mul_nonneg h0 c0;grind),rV W ?_,zED hc hq hi⟩
   rw [e]
   have:=Rat.mul_le_mul_of_nonneg_right h1 c0
   grind
  ·exact zIY (s:=(cs.sum:Rat)) (by grind) (by rw [Rat.mul_comm];exact sc)
theorem zJB {m:Nat} {w:Wy} {ws cs:List Int} {q:Rat} {f:Nat->Rat} (hw:w.due ws cs) (hc:Cl cs) (hq:Haul m q cs.sum) (al:Al (m+263) ws cs q f w):Dl (m+370) cs q f:=by
 have sm:=hc.sum
 have zW:Sz 105 (cs.sum:Rat):=bZ (by omega) (by decide)
 have z:=hq.sz
 have z':Sz (m+106) ((cs.sum:Rat) - q):=(zW.sub hq.sz).mono (by omega)
 have n:=hq.nn
 have u:=hq.up
 cases w with
 | row=>exact ((zGy hc z n u).mono (by omega)).congr al
 | back=>exact ((Dl.dual hc (zGy hc z' (by grind) (by grind)) rfl).mono (by omega)).congr al
 | even=>
  obtain ⟨t,tl,e⟩:=al
  exact ((zGZ hw hc tl).mono (by omega)).congr e
 | lack=>
  obtain ⟨t,tl,e⟩:=al
  exact ((Dl.dual hc (zGZ hw hc tl) rfl).mono (by omega)).congr e
 | part=>exact (zIo hc z n u).congr al
 | half=>
  obtain ⟨t,⟨c,tl,e⟩ | ⟨c,tl,e⟩⟩:=al
  ·exact ((zEQ hc tl).mono (by omega)).congr e
  ·exact ((Dl.dual hc (zEQ hc tl) rfl).mono (by omega)).congr e
theorem rG:∀ (cs:List Int) (a:Int) (q:Rat) (i:Nat),i < cs.length->(gH cs a q).getD i 0=mn (ps0 (q - ((a+(cs.take i).sum:Int):Rat))) (cR cs i)
 | c::r,a,q,0,_=>by simp [gH,cR]
 | c::r,a,q,i+1,h=>by
  have ih:=rG r (a+c) q i (by simpa using h)
  rw [List.take_succ_cons,List.sum_cons,<-Int.add_assoc]
  show (gH r (a+c) q).getD i 0=_
  rw [ih]
  rfl
def Dn (B:Int) (x:Rat):Prop:=∃ k:Int,x * (B:Rat)=(k:Rat)
theorem Dn.add {B:Int} {x y:Rat} (hx:Dn B x) (hy:Dn B y):Dn B (x+y):=by
 obtain ⟨a,ha⟩:=hx
 obtain ⟨b,hb⟩:=hy
 exact ⟨a+b,by rw [Rat.intCast_add,<-ha,<-hb];grind⟩
theorem Dn.sub {B:Int} {x y:Rat} (hx:Dn B x) (hy:Dn B y):Dn B (x - y):=by
 obtain ⟨a,ha⟩:=hx
 obtain ⟨b,hb⟩:=hy
 exact ⟨a - b,by rw [Rat.intCast_sub,<-ha,<-hb];grind⟩
theorem Dn.int (B c:Int):Dn B (c:Rat):=⟨c * B,by rw [Rat.intCast_mul]⟩
theorem Dn.zero (B:Int):Dn B 0:=Dn.int B 0
theorem Dn.mn {B:Int} {x y:Rat} (hx:Dn B x) (hy:Dn B y):Dn B (Lw.mn x y):=by
 unfold Lw.mn
 split
 ·exact hx
 ·exact hy
theorem Dn.ps {B:Int} {x:Rat} (hx:Dn B x):Dn B (ps0 x):=by
 unfold ps0
 split
 ·exact Dn.zero B
 ·exact hx
theorem Dn.le {B:Int} {x:Rat} (h:Dn B x) (hB:0 < B):(x.den:Int)<=B:=by
 obtain ⟨a,ha⟩:=h
 have nB:(B:Rat)≠0:=fun z=>by
  have:B=0:=by exact_mod_cast z
  omega
 have e:x=Rat.divInt a B:=by
  rw [Rat.divInt_eq_div,<-ha]
  grind
 rw [e]
 exact zBC hB
theorem Dn.sz {B c:Int} {x:Rat} {a b:Nat} (h:Dn B x) (hB:0 < B) (hb:B < 2^b) (h0:0<=x) (h1:x<=(c:Rat)) (hc:c < 2^a):Sz (a+b) x:=by
 have le:=h.le hB
 have d0:=iF x
 have n0:0<=x.num:=Rat.num_nonneg.mpr h0
 have c0:0<=c:=by
  have:((0:Int):Rat)<=(c:Rat):=Rat.le_trans (by rw [show ((0:Int):Rat)=0 from rfl];exact h0) h1
  exact Rat.intCast_le_intCast.mp this
 have n1:x.num<=c * x.den:=by
  have:((x.num:Int):Rat)<=((c * x.den:Int):Rat):=by
   rw [Rat.intCast_mul,zJy]
   exact Rat.mul_le_mul_of_nonneg_right h1 (by have z:(0:Int)<=x.den:=(by omega);exact_mod_cast z)
  exact Rat.intCast_le_intCast.mp this
 have hb':(x.den:Int).natAbs < 2^b:=by
  have:((2:Nat)^b:Nat)=((2:Int)^b):=by rw [Int.natCast_pow];rfl
  omega
 have ha':c.natAbs < 2^a:=by
  have:((2:Nat)^a:Nat)=((2:Int)^a):=by rw [Int.natCast_pow];rfl
  omega
 have m:=eA ha' hb'
 refine ⟨by omega,?_⟩
 have:2^b<=2^(a+b):=Nat.pow_le_pow_right (by decide) (by omega)
 omega
theorem xF {c w:Nat->Rat} {ci wi:Nat->Int} {t:Rat} (hc:∀ i,c i=(ci i:Rat)) (hw:∀ i,w i=(wi i:Rat)):∀ l:List Nat,(∀ i∈l,1<=wi i/\wi i<=10^6)->∃ F W:Int,fY (dN c w t) l=(W:Rat) * t+(F:Rat)/\0<=W/\W<=l.length * 10^6/\(W=0->∀ i∈l,dN c w t i=c i)
 | [],_=>⟨0,0,by rw [fV,show ((0:Int):Rat)=0 from rfl];grind,by decide,by decide,fun _ i h=>by cases h⟩
 | i::l,h=>by
  obtain ⟨F,W,e,w0,w1,f⟩:=xF (t:=t) hc hw l fun j hj=>h j (List.mem_cons_of_mem _ hj)
  have hi:=h i List.mem_cons_self
  have ek:((l.length+1:Nat):Int) * 10^6=(l.length:Int) * 10^6+10^6:=by rw [Int.natCast_add,Int.add_mul];rfl
  rw [aX,List.length_cons]
  by_cases z:w i * t < c i
  ·have g:dN c w t i=w i * t:=if_pos z
   refine ⟨F,W+wi i,?_,by omega,by omega,fun z=>by omega⟩
   rw [g,e,Rat.intCast_add,hw]
   grind
  ·have g:dN c w t i=c i:=if_neg z
   refine ⟨F+ci i,W,?_,w0,by omega,fun z j hj=>?_⟩
   ·rw [g,e,Rat.intCast_add,hc]
    grind
   ·rcases List.mem_cons.mp hj with rfl | hj
    ·exact g
    ·exact f z j hj
theorem zMR {M:Nat} {ws cs:List Int} {q t:Rat} {B:Int} (hW:Wt ws cs) (hl:cs.length<=12) (tl:Lvl M ws cs q t) (hq:Dn B q):∃ E:Int,0 < E/\E<=12 * 10^6/\∀ i,i < cs.length->Dn (B * E) (dN (cR cs) (cR ws) t i):=by
 obtain ⟨F,W,e,w0,w1,f⟩:=xF (c:=cR cs) (w:=cR ws) (ci:=fun i=>cs.getD i 0) (wi:=fun i=>ws.getD i 0) (t:=t) (fun _=>rfl) (fun _=>rfl) (List.range cs.length) fun i hi=>hW.at (List.mem_range.mp hi)
 have s:fY (dN (cR cs) (cR ws) t) (List.range cs.length)=q:=tl.sum
 rw [List.length_range] at w1
 by_cases z:W=0
 ·refine ⟨1,by decide,by decide,fun i hi=>?_⟩
  rw [f z i (List.mem_range.mpr hi)]
  exact Dn.int _ _
 ·refine ⟨W,by omega,by omega,fun i hi=>?_⟩
  unfold dN
  refine Dn.mn ?_ (Dn.int _ _)
  obtain ⟨k,hk⟩:=hq.sub (Dn.int B F)
  refine ⟨ws.getD i 0 * k,?_⟩
  rw [Rat.intCast_mul,Rat.intCast_mul,<-hk,<-s,e]
  show cR ws i * t * _=cR ws i * _
  grind
theorem zLN {B:Int} {x:Rat} (h:Dn B x):Dn (B * 2) (x * hf):=by
 obtain ⟨k,hk⟩:=h
 refine ⟨k,?_⟩
 rw [<-hk,Rat.intCast_mul,oC,show ((2:Int):Rat)=2 from rfl]
 grind
theorem zMA {cs:List Int} {q:Rat} {B:Int} (h:Dn B q) {i:Nat} (hi:i < cs.length):Dn B (zAd cs q i):=by
 unfold zAd
 rw [rG cs 0 q i hi]
 exact Dn.mn (Dn.ps (h.sub (Dn.int _ _))) (Dn.int _ _)
theorem Al.mono {M M':Nat} {w:Wy} {ws cs:List Int} {q:Rat} {f:Nat->Rat} (h:Al M ws cs q f w) (l:M<=M'):Al M' ws cs q f w:=by
 cases w with
 | row=>exact h
 | back=>exact h
 | part=>exact h
 | even=>obtain ⟨t,tl,e⟩:=h;exact ⟨t,tl.mono l,e⟩
 | lack=>obtain ⟨t,tl,e⟩:=h;exact ⟨t,tl.mono l,e⟩
 | half=>
  obtain ⟨t,⟨c,tl,e⟩ | ⟨c,tl,e⟩⟩:=h
  ·exact ⟨t,.inl ⟨c,tl.mono l,e⟩⟩
  ·exact ⟨t,.inr ⟨c,tl.mono l,e⟩⟩
theorem zKG (q:Rat):Sz (q.num.natAbs+q.den) q:=⟨Nat.lt_of_lt_of_le Nat.lt_two_pow_self (Nat.pow_le_pow_right (by decide) (by omega)),Nat.lt_of_lt_of_le Nat.lt_two_pow_self (Nat.pow_le_pow_right (by decide) (by omega))⟩
theorem zLU {M:Nat} {w:Wy} {ws cs:List Int} {q:Rat} {f:Nat->Rat} (hw:w.due ws cs) (hc:Cl cs) (q0:0<=q) (q1:q<=(cs.sum:Rat)) (al:Al M ws cs q f w):(∀ i,i < cs.length->0<=f i/\f i<=cR cs i)/\((List.range cs.length).map f).sum=q:=by
 have d:=zJB (m:=q.num.natAbs+q.den+M) hw hc ⟨q0,q1,(zKG q).mono (by omega)⟩ (al.mono (by omega))
 exact ⟨fun i hi=>⟨(d.bd i hi).1,(d.bd i hi).2.1⟩,d.sum⟩
theorem jZ {M M':Nat} {ws cs:List Int} {q q' t t':Rat} (hW:Wt ws cs) (a:Lvl M ws cs q t) (b:Lvl M' ws cs q' t') (h:q=q') {i:Nat} (hi:i < cs.length):dN (cR cs) (cR ws) t i=dN (cR cs) (cR ws) t' i:=by
 have pw:∀ j∈List.range cs.length,0 < cR ws j:=fun j hj=>by
  have:=(hW.at (List.mem_range.mp hj)).1
  unfold cR
  exact_mod_cast (show 0 < ws.getD j 0 by omega)
 exact vH (c:=cR cs) (w:=cR ws) pw (by show (evs ws cs t).sum=(evs ws cs t').sum;rw [a.sum,b.sum,h]) i (List.mem_range.mpr hi)
theorem zLt {M M':Nat} {w:Wy} {ws cs:List Int} {q:Rat} {f g:Nat->Rat} (hw:w.due ws cs) (a:Al M ws cs q f w) (b:Al M' ws cs q g w) {i:Nat} (hi:i < cs.length):f i=g i:=by
 cases w with
 | row=>rw [a i hi,b i hi]
 | back=>rw [a i hi,b i hi]
 | part=>rw [a i hi,b i hi]
 | even=>
  obtain ⟨t,tl,e⟩:=a
  obtain ⟨t',tl',e'⟩:=b
  rw [e i hi,e' i hi,jZ hw tl tl' rfl hi]
 | lack=>
  obtain ⟨t,tl,e⟩:=a
  obtain ⟨t',tl',e'⟩:=b
  rw [e i hi,e' i hi,jZ hw tl tl' rfl hi]
 | half=>
  have W:=gK cs
  obtain ⟨t,⟨c,tl,e⟩ | ⟨c,tl,e⟩⟩:=a
  ·obtain ⟨t',⟨c',tl',e'⟩ | ⟨c',tl',e'⟩⟩:=b
   ·rw [e i hi,e' i hi,jZ W tl tl' rfl hi]
   ·exact absurd c' (Rat.not_lt.mpr c)
  ·obtain ⟨t',⟨c',tl',e'⟩ | ⟨c',tl',e'⟩⟩:=b
   ·exact absurd c (Rat.not_lt.mpr c')
   ·rw [e i hi,e' i hi,jZ W tl tl' rfl hi]
theorem pK {M M':Nat} {ws cs:List Int} {q q' t t':Rat} (hW:Wt ws cs) (a:Lvl M ws cs q t) (b:Lvl M' ws cs q' t') (h:q<=q') {i:Nat} (hi:i < cs.length):dN (cR cs) (cR ws) t i<=dN (cR cs) (cR ws) t' i:=by
 have pw:∀ j∈List.range cs.length,0 < cR ws j:=fun j hj=>by
  have:=(hW.at (List.mem_range.mp hj)).1
  unfold cR
  exact_mod_cast (show 0 < ws.getD j 0 by omega)
 rcases Rat.le_total (a:=t) (b:=t') with g | g
 ·exact kI (pw i (List.mem_range.mpr hi)) g
 ·have le:∀ j∈List.range cs.length,dN (cR cs) (cR ws) t' j<=dN (cR cs) (cR ws) t j:=fun j hj=>kI (pw j hj) g
  have s1:fY (dN (cR cs) (cR ws) t') (List.range cs.length)=q':=b.sum
  have s2:fY (dN (cR cs) (cR ws) t) (List.range cs.length)=q:=a.sum
  have s3:=nS le
  rw [nR le (by rw [s1,s2];rw [s1,s2] at s3;grind) i (List.mem_range.mpr hi)]
  exact Rat.le_refl
theorem zJe {M M':Nat} {w:Wy} {ws cs:List Int} {q q':Rat} {f g:Nat->Rat} (hw:w.due ws cs) (hc:Cl cs) (a:Al M ws cs q f w) (b:Al M' ws cs q' g w) (h:q<=q') {i:Nat} (hi:i < cs.length):f i<=g i:=by
 have sm:=hc.sum
 cases w with
 | row=>rw [a i hi,b i hi];exact rP cs 0 i h
 | back=>
  rw [a i hi,b i hi]
  have:=rP cs 0 (q:=(cs.sum:Rat) - q') (q':=(cs.sum:Rat) - q) i (by grind)
  unfold zAd
  grind
 | even=>
  obtain ⟨t,tl,e⟩:=a
  obtain ⟨t',tl',e'⟩:=b
  rw [e i hi,e' i hi]
  exact pK hw tl tl' h hi
 | lack=>
  obtain ⟨t,tl,e⟩:=a
  obtain ⟨t',tl',e'⟩:=b
  rw [e i hi,e' i hi]
  have:=pK hw tl' tl (by grind) hi
  grind
 | part=>
  rw [a i hi,b i hi]
  have c0:0<=cR cs i:=by unfold cR;exact_mod_cast hc.nn _ (List.mem_of_getElem? (bE hi))
  obtain ⟨p1,p2⟩:=kG (q:=q) hc hi
  obtain ⟨r1,r2⟩:=kG (q:=q') hc hi
  by_cases z:cs.sum=0
  ·rw [p2 z,r2 z];exact Rat.le_refl
  ·have W:(0:Rat) < (cs.sum:Rat):=by exact_mod_cast (show 0 < cs.sum by omega)
   exact rV W (by rw [p1,r1];exact Rat.mul_le_mul_of_nonneg_right h c0)
 | half=>
  have ow:=gK cs
  obtain ⟨t,⟨c,tl,e⟩ | ⟨c,tl,e⟩⟩:=a
  ·have b1:=(lA ow hc tl.nn hi).2
   obtain ⟨t',⟨c',tl',e'⟩ | ⟨c',tl',e'⟩⟩:=b
   ·have:=pK ow tl tl' (by grind) hi
    rw [e i hi,e' i hi,oC]
    grind
   ·have b2:=(lA ow hc tl'.nn hi).2
    rw [e i hi,e' i hi,oC]
    grind
  ·obtain ⟨t',⟨c',tl',e'⟩ | ⟨c',tl',e'⟩⟩:=b
   ·exfalso;grind
   ·have:=pK ow tl' tl (by grind) hi
    rw [e i hi,e' i hi,oC]
    grind
def Wy.con:Wy->Wy
 | .row=>.back
 | .back=>.row
 | .even=>.lack
 | .lack=>.even
 | .part=>.part
 | .half=>.half
theorem zBJ {M:Nat} {ws cs:List Int} {q t:Rat} (hW:Wt ws cs) (hc:Cl cs) (a:Lvl M ws cs q t) (h:q=(cs.sum:Rat)) {i:Nat} (hi:i < cs.length):dN (cR cs) (cR ws) t i=cR cs i:=by
 have s:fY (dN (cR cs) (cR ws) t) (List.range cs.length)=q:=a.sum
 exact nR (fun j hj=>(lA hW hc a.nn (List.mem_range.mp hj)).2) (by rw [s,h];exact (oP cs).symm) i (List.mem_range.mpr hi)
theorem zJR {M M':Nat} {w:Wy} {ws cs:List Int} {q:Rat} {f g:Nat->Rat} (hw:w.due ws cs) (hc:Cl cs) (hn:0<=q) (hu:q<=(cs.sum:Rat)) (a:Al M ws cs q f w) (b:Al M' ws cs ((cs.sum:Rat) - q) g w.con) {i:Nat} (hi:i < cs.length):g i=cR cs i - f i:=by
 have sm:=hc.sum
 have e0:(cs.sum:Rat) - ((cs.sum:Rat) - q)=q:=by grind
 cases w with
 | row=>
  have b':g i=cR cs i - zAd cs ((cs.sum:Rat) - ((cs.sum:Rat) - q)) i:=b i hi
  rw [b',e0,a i hi]
 | back=>
  have b':g i=zAd cs ((cs.sum:Rat) - q) i:=b i hi
  rw [b',a i hi]
  grind
 | even=>
  obtain ⟨t,tl,e⟩:=a
  obtain ⟨t',tl',e'⟩:=b
  rw [e i hi,e' i hi,jZ hw tl' tl e0 hi]
 | lack=>
  obtain ⟨t,tl,e⟩:=a
  obtain ⟨t',tl',e'⟩:=b
  rw [e i hi,e' i hi,jZ hw tl' tl rfl hi]
  grind
 | part=>
  have b':g i=iJ cs ((cs.sum:Rat) - q) i:=b i hi
  have u:=hu
  have n:=hn
  obtain ⟨p1,p2⟩:=kG (q:=q) hc hi
  obtain ⟨r1,r2⟩:=kG (q:=(cs.sum:Rat) - q) hc hi
  rw [b',a i hi]
  by_cases z:cs.sum=0
  ·have c0:=mV hc.nn z _ (List.mem_of_getElem? (bE hi))
   rw [p2 z,r2 z]
   unfold cR
   rw [c0,show ((0:Int):Rat)=0 from rfl]
   grind
  ·have W:(0:Rat) < (cs.sum:Rat):=by exact_mod_cast (show 0 < cs.sum by omega)
   have e:iJ cs ((cs.sum:Rat) - q) i * (cs.sum:Rat)=(cR cs i - iJ cs q i) * (cs.sum:Rat):=by rw [r1];grind
   have l1:=rV W (show iJ cs ((cs.sum:Rat) - q) i * (cs.sum:Rat)<=(cR cs i - iJ cs q i) * (cs.sum:Rat) by rw [e];exact Rat.le_refl)
   have l2:=rV W (show (cR cs i - iJ cs q i) * (cs.sum:Rat)<=iJ cs ((cs.sum:Rat) - q) i * (cs.sum:Rat) by rw [e];exact Rat.le_refl)
   grind
 | half=>
  have ow:=gK cs
  obtain ⟨t,⟨c,tl,e⟩ | ⟨c,tl,e⟩⟩:=a
  ·obtain ⟨t',⟨c',tl',e'⟩ | ⟨c',tl',e'⟩⟩:=b
   ·have f1:=zBJ ow hc tl (by grind) hi
    have f2:=zBJ ow hc tl' (by grind) hi
    rw [e i hi,e' i hi,f1,f2,oC]
    grind
   ·have f1:=jZ ow tl' tl (by grind) hi
    rw [e i hi,e' i hi,f1]
  ·obtain ⟨t',⟨c',tl',e'⟩ | ⟨c',tl',e'⟩⟩:=b
   ·have f1:=jZ ow tl' tl rfl hi
    rw [e i hi,e' i hi,f1]
    grind
   ·exfalso;grind
theorem zIz {w:Wy} {ws cs:List Int} (h:w.due ws cs):w.con.due ws cs:=by cases w<;>exact h
def Lin (f:Rat->Rat) (a b:Rat):Prop:=∀ x,a<=x->x<=b->(f x - f a) * (b - a)=(x - a) * (f b - f a)
def Cn (R:Rat->Rat->Prop):List Rat->Prop
 | a::b::l=>R a b/\Cn R (b::l)
 | _=>True
theorem Cn.imp {R R':Rat->Rat->Prop} (h:∀ a b,R a b->R' a b):∀ {l:List Rat},Cn R l->Cn R' l
 | [],_=>trivial
 | [_],_=>trivial
 | a::b::l,k=>⟨h a b k.1,Cn.imp h k.2⟩
theorem rN {A:List Rat}:∀ {l:List Rat},l.Pairwise (·<=·)->(∀ x∈A,x∈l∨∀ y∈l,x<=y)->Cn (fun s t=>s<=t/\∀ x∈A,x<=s∨t<=x) l
 | [],_,_=>trivial
 | [_],_,_=>trivial
 | a::b::r,h,hA=>by
  obtain ⟨h1,h2⟩:=List.pairwise_cons.mp h
  obtain ⟨h3,h4⟩:=List.pairwise_cons.mp h2
  refine ⟨⟨h1 b List.mem_cons_self,fun x hx=>?_⟩,rN h2 fun x hx=>?_⟩
  ·rcases hA x hx with h | h
   ·rcases List.mem_cons.mp h with rfl | h
    ·exact .inl Rat.le_refl
    ·rcases List.mem_cons.mp h with rfl | h
     ·exact .inr Rat.le_refl
     ·exact .inr (h3 x h)
   ·exact .inl (h a List.mem_cons_self)
  ·rcases hA x hx with h | h
   ·rcases List.mem_cons.mp h with rfl | h
    ·exact .inr h1
    ·exact .inl h
   ·exact .inr fun y hy=>h y (List.mem_cons_of_mem _ hy)
def QQ (ws cs:List Int) (t:Rat):Rat:=fY (dN (cR cs) (cR ws) t) (List.range cs.length)
def lv (ws cs:List Int) (i:Nat):Rat:=cR cs i / cR ws i
theorem Wt.pos {ws cs:List Int} (h:Wt ws cs) {i:Nat} (hi:i < cs.length):0 < cR ws i:=by
 have:=(h.at hi).1
 unfold cR
 exact_mod_cast (show 0 < ws.getD i 0 by omega)
theorem zBm {ws cs:List Int} (h:Wt ws cs) {i:Nat} (hi:i < cs.length):cR ws i * lv ws cs i=cR cs i:=by
 have:=h.pos hi
 unfold lv
 grind
theorem zDL {ws cs:List Int} (h:Wt ws cs) {i:Nat} (hi:i < cs.length) {t:Rat} (l:lv ws cs i<=t):dN (cR cs) (cR ws) t i=cR cs i:=by
 have p:=h.pos hi
 have e:=zBm h hi
 have:=Rat.mul_le_mul_of_nonneg_left l (Rat.le_of_lt p)
 unfold dN mn
 grind
theorem zEl {ws cs:List Int} (h:Wt ws cs) {i:Nat} (hi:i < cs.length) {t:Rat} (l:t<=lv ws cs i):dN (cR cs) (cR ws) t i=cR ws i * t:=by
 have p:=h.pos hi
 have e:=zBm h hi
 have:=Rat.mul_le_mul_of_nonneg_left l (Rat.le_of_lt p)
 unfold dN mn
 grind
theorem zFw {ws cs:List Int} (h:Wt ws cs) (hc:Cl cs) {i:Nat} (hi:i < cs.length):0<=lv ws cs i:=by
 have p:=h.pos hi
 have c:=(zGq hc hi).1
 have e:=zBm h hi
 rcases Rat.le_total (a:=0) (b:=lv ws cs i) with z | z
 ·exact z
 ·have:=Rat.mul_le_mul_of_nonneg_left z (Rat.le_of_lt p)
  have z2:cR cs i=0:=by grind
  unfold lv
  rw [z2]
  grind
def sl (ws cs:List Int) (s:Rat) (i:Nat):Rat:=if lv ws cs i<=s then 0 else cR ws i
theorem zCb {f g:Nat->Rat}:∀ {l:List Nat},fY (fun i=>f i - g i) l=fY f l - fY g l
 | []=>by rw [fV,fV,fV];grind
 | a::l=>by rw [aX,aX,aX,zCb];grind
def zJp (ws cs:List Int) (s t:Rat):Prop:=∀ i,i < cs.length->lv ws cs i<=s∨t<=lv ws cs i
theorem uO {ws cs:List Int} (h:Wt ws cs) {s t u:Rat} (n:zJp ws cs s t) (su:s<=u) (ut:u<=t) {i:Nat} (hi:i < cs.length):dN (cR cs) (cR ws) u i - dN (cR cs) (cR ws) s i=sl ws cs s i * (u - s):=by
 unfold sl
 by_cases z:lv ws cs i<=s
 ·rw [zDL h hi z,zDL h hi (Rat.le_trans z su),if_pos z];grind
 ·rcases n i hi with k | k
  ·exact absurd k z
  ·rw [zEl h hi (Rat.le_trans ut k),zEl h hi (Rat.le_trans su (Rat.le_trans ut k)),if_neg z];grind
theorem xB {ws cs:List Int} (h:Wt ws cs) {s t u:Rat} (n:zJp ws cs s t) (su:s<=u) (ut:u<=t):QQ ws cs u - QQ ws cs s=fY (sl ws cs s) (List.range cs.length) * (u - s):=by
 unfold QQ
 rw [<-zCb,dM (g:=fun i=>sl ws cs s i * (u - s)) fun i hi=>uO h n su ut (List.mem_range.mp hi)]
 rw [cW]
 grind
theorem lP {ws cs:List Int} (h:Wt ws cs) {s t:Rat} (l:s<=t):QQ ws cs s<=QQ ws cs t:=nS fun i hi=>kI (h.pos (List.mem_range.mp hi)) l
theorem zMb {ws cs:List Int} (h:Wt ws cs) {s t:Rat} (e:QQ ws cs s=QQ ws cs t) {i:Nat} (hi:i < cs.length):dN (cR cs) (cR ws) s i=dN (cR cs) (cR ws) t i:=vH (fun i hi=>h.pos (List.mem_range.mp hi)) e i (List.mem_range.mpr hi)
theorem zJW {ws cs:List Int} (h:Wt ws cs) {s t:Rat} (st:s<=t) (n:zJp ws cs s t) {i:Nat} (hi:i < cs.length) {f:Rat->Rat} (hf:∀ x,QQ ws cs s<=x->x<=QQ ws cs t->∃ u,QQ ws cs u=x/\f x=dN (cR cs) (cR ws) u i):Lin f (QQ ws cs s) (QQ ws cs t):=by
 have ab:=lP h st
 have at':∀ v,s<=v->v<=t->f (QQ ws cs v)=dN (cR cs) (cR ws) v i:=fun v h1 h2=>by
  obtain ⟨u,e1,e2⟩:=hf _ (lP h h1) (lP h h2)
  rw [e2,zMb h e1 hi]
 have fa:=at' s Rat.le_refl st
 have fb:=at' t st Rat.le_refl
 intro x h1 h2
 obtain ⟨u,e1,e2⟩:=hf x h1 h2
 rcases Rat.le_total (a:=u) (b:=s) with z | z
 ·have q:=lP h z
  have ex:x=QQ ws cs s:=by grind
  subst ex
  grind
 rcases Rat.le_total (a:=t) (b:=u) with z' | z'
 ·have q:=lP h z'
  have ex:x=QQ ws cs t:=by grind
  subst ex
  grind
 have d1:=xB h n z z'
 have d2:=xB h n st Rat.le_refl
 have g1:=uO h n z z' hi
 have g2:=uO h n st Rat.le_refl hi
 rw [e1] at d1
 rw [e2,fa,fb,g1,g2,d1,d2]
 grind
theorem zDC {ws cs:List Int} (h:Wt ws cs) {q:Rat}:∀ {l:List Rat} {s:Rat},Cn (fun s t=>s<=t/\zJp ws cs s t) (s::l)->QQ ws cs s<=q->q<=QQ ws cs ((s::l).getLast (by simp))->∃ u,s<=u/\QQ ws cs u=q
 | [],s,_,h1,h2=>⟨s,Rat.le_refl,by
  have h2':q<=QQ ws cs s:=h2
  grind⟩
 | t::l,s,hc,h1,h2=>by
  obtain ⟨⟨st,n⟩,hc'⟩:=hc
  rcases Rat.le_total (a:=QQ ws cs t) (b:=q) with z | z
  ·obtain ⟨u,u1,u2⟩:=zDC h hc' z (by simpa using h2)
   exact ⟨u,Rat.le_trans st u1,u2⟩
  ·by_cases e:QQ ws cs s=QQ ws cs t
   ·exact ⟨s,Rat.le_refl,by grind⟩
   have d2:=xB h n st Rat.le_refl
   generalize fY (sl ws cs s) (List.range cs.length)=W at d2
   have lt:QQ ws cs s < QQ ws cs t:=by have:=lP h st;grind
   have p:0 < QQ ws cs t - QQ ws cs s:=by grind
   have nz:QQ ws cs t - QQ ws cs s≠0:=by grind
   have lam:0<=(q - QQ ws cs s) / (QQ ws cs t - QQ ws cs s)/\(q - QQ ws cs s) / (QQ ws cs t - QQ ws cs s)<=1:=by
    refine ⟨rV p ?_,rV p ?_⟩
    ·rw [Rat.div_mul_cancel nz];grind
    ·rw [Rat.div_mul_cancel nz];grind
   have le:(q - QQ ws cs s) / (QQ ws cs t - QQ ws cs s) * (QQ ws cs t - QQ ws cs s)=q - QQ ws cs s:=Rat.div_mul_cancel nz
   generalize (q - QQ ws cs s) / (QQ ws cs t - QQ ws cs s)=k at lam le
   have ts:0<=t - s:=by grind
   have m1:=Rat.mul_nonneg lam.1 ts
   have m2:=Rat.mul_le_mul_of_nonneg_right lam.2 ts
   refine ⟨s+k * (t - s),by grind,?_⟩
   have d1:=xB h n (u:=s+k * (t - s)) (by grind) (by grind)
   have d2':=xB h n st Rat.le_refl
   grind
theorem zHq:∀ (n:Nat) (g:Nat->Rat),∃ M,∀ i,i < n->Sz M (g i)
 | 0,_=>⟨0,fun i h=>by omega⟩
 | n+1,g=>by
  obtain ⟨M,h⟩:=zHq n g
  refine ⟨M+((g n).num.natAbs+(g n).den),fun i hi=>?_⟩
  by_cases z:i=n
  ·rw [z];exact (zKG (g n)).mono (by omega)
  ·exact (h i (by omega)).mono (by omega)
theorem zMe {ws cs:List Int} (h:Wt ws cs) (hc:Cl cs) {q:Rat} (q0:0<=q) (q1:q<=(cs.sum:Rat)):∃ u,0<=u/\QQ ws cs u=q:=by
 generalize hA:(List.range cs.length).map (lv ws cs)=A
 have pm:(A.mergeSort fun a b=>decide (a<=b)).Perm A:=List.mergeSort_perm A _
 have so:(A.mergeSort fun a b=>decide (a<=b)).Pairwise (·<=·):=by
  have:=List.pairwise_mergeSort (le:=fun a b:Rat=>decide (a<=b)) (fun a b c h1 h2=>by
   have h1':=of_decide_eq_true h1
   have h2':=of_decide_eq_true h2
   exact decide_eq_true (Rat.le_trans h1' h2')) (fun a b=>by
   rcases Rat.le_total (a:=a) (b:=b) with z | z
   ·simp [z]
   ·simp [z]) A
  exact this.imp fun h=>of_decide_eq_true h
 generalize A.mergeSort (fun a b=>decide (a<=b))=L at pm so
 have nn:∀ x∈L,0<=x:=fun x hx=>by
  have hx':=pm.mem_iff.mp hx
  rw [<-hA] at hx'
  obtain ⟨i,hi,rfl⟩:=List.mem_map.mp hx'
  exact zFw h hc (List.mem_range.mp hi)
 have so':(0::L).Pairwise (·<=·):=List.pairwise_cons.mpr ⟨nn,so⟩
 have cn:=rN (A:=A) so' fun x hx=>.inl (List.mem_cons_of_mem _ (pm.mem_iff.mpr hx))
 have cn':Cn (fun s t=>s<=t/\zJp ws cs s t) (0::L):=cn.imp fun a b hab=>⟨hab.1,fun i hi=>hab.2 _ (by rw [<-hA];exact List.mem_map.mpr ⟨i,List.mem_range.mpr hi,rfl⟩)⟩
 have z0:QQ ws cs 0=0:=by
  unfold QQ
  rw [dM (g:=fun i=>cR ws i * 0) fun i hi=>zEl h (List.mem_range.mp hi) (zFw h hc (List.mem_range.mp hi)),cW]
  grind
 have zl:QQ ws cs ((0::L).getLast (by simp))=(cs.sum:Rat):=by
  unfold QQ
  rw [dM (g:=cR cs) fun i hi=>zDL h (List.mem_range.mp hi) ?_]
  ·exact oP cs
  ·have m:lv ws cs i∈L:=pm.mem_iff.mpr (by rw [<-hA];exact List.mem_map.mpr ⟨i,hi,rfl⟩)
   have key:∀ {l:List Rat} (ne:l≠[]),l.Pairwise (·<=·)->∀ x∈l,x<=l.getLast ne:=by
    intro l
    induction l with
    | nil=>intro ne;exact absurd rfl ne
    | cons a r ih=>
     intro ne hp x hx
     obtain ⟨p1,p2⟩:=List.pairwise_cons.mp hp
     cases r with
     | nil=>rw [List.mem_singleton.mp hx];exact Rat.le_refl
     | cons b r=>
      rw [List.getLast_cons (by simp)]
      rcases List.mem_cons.mp hx with rfl | hx
      ·exact Rat.le_trans (p1 b List.mem_cons_self) (ih (by simp) p2 b List.mem_cons_self)
      ·exact ih (by simp) p2 x hx
   exact key (by simp) so' _ (List.mem_cons_of_mem _ m)
 exact zDC h cn' (by rw [z0];exact q0) (by rw [zl];exact q1)
theorem zBO {ws cs:List Int} (h:Wt ws cs) (hc:Cl cs) {q:Rat} (q0:0<=q) (q1:q<=(cs.sum:Rat)):∃ M t,Lvl M ws cs q t:=by
 obtain ⟨u,u0,e⟩:=zMe h hc q0 q1
 obtain ⟨M,hM⟩:=zHq cs.length (dN (cR cs) (cR ws) u)
 exact ⟨M,u,u0,e,hM⟩
theorem zKp {w:Wy} {ws cs:List Int} (hw:w.due ws cs) (hc:Cl cs) {q:Rat} (q0:0<=q) (q1:q<=(cs.sum:Rat)):∃ f M,Al M ws cs q f w:=by
 cases w with
 | row=>exact ⟨_,0,fun i _=>rfl⟩
 | back=>exact ⟨_,0,fun i _=>rfl⟩
 | part=>exact ⟨_,0,fun i _=>rfl⟩
 | even=>
  obtain ⟨M,t,tl⟩:=zBO hw hc q0 q1
  exact ⟨_,M,t,tl,fun i _=>rfl⟩
 | lack=>
  obtain ⟨M,t,tl⟩:=zBO hw hc (q:=(cs.sum:Rat) - q) (by grind) (by grind)
  exact ⟨_,M,t,tl,fun i _=>rfl⟩
 | half=>
  by_cases z:(cs.sum:Rat) < q+q
  ·obtain ⟨M,t,tl⟩:=zBO (gK cs) hc (q:=((cs.sum:Rat) - q)+((cs.sum:Rat) - q)) (by grind) (by grind)
   exact ⟨_,M,t,.inr ⟨z,tl,fun i _=>rfl⟩⟩
  ·have z':=Rat.not_lt.mp z
   obtain ⟨M,t,tl⟩:=zBO (gK cs) hc (q:=q+q) (by grind) z'
   exact ⟨_,M,t,.inl ⟨z',tl,fun i _=>rfl⟩⟩
open Classical in
def FF (w:Wy) (ws cs:List Int) (q:Rat):Nat->Rat:=if h:∃ f M,Al M ws cs q f w then Classical.choose h else fun _=>0
theorem xL {w:Wy} {ws cs:List Int} (hw:w.due ws cs) (hc:Cl cs) {q:Rat} (q0:0<=q) (q1:q<=(cs.sum:Rat)):∃ M,Al M ws cs q (FF w ws cs q) w:=by
 unfold FF
 rw [dif_pos (zKp hw hc q0 q1)]
 exact Classical.choose_spec (zKp hw hc q0 q1)
theorem zCD {M:Nat} {w:Wy} {ws cs:List Int} (hw:w.due ws cs) (hc:Cl cs) {q:Rat} {f:Nat->Rat} (q0:0<=q) (q1:q<=(cs.sum:Rat)) (a:Al M ws cs q f w) {i:Nat} (hi:i < cs.length):f i=FF w ws cs q i:=by
 obtain ⟨M',b⟩:=xL hw hc q0 q1
 exact zLt hw a b hi
theorem zKc {w:Wy} {ws cs:List Int} (hw:w.due ws cs) (hc:Cl cs) {q:Rat} (q0:0<=q) (q1:q<=(cs.sum:Rat)):(∀ i,i < cs.length->0<=FF w ws cs q i/\FF w ws cs q i<=cR cs i)/\((List.range cs.length).map (FF w ws cs q)).sum=q:=by
 obtain ⟨M,b⟩:=xL hw hc q0 q1
 exact zLU hw hc q0 q1 b
theorem zFb {w:Wy} {ws cs:List Int} (hw:w.due ws cs) (hc:Cl cs) {q q':Rat} (q0:0<=q) (l:q<=q') (q1:q'<=(cs.sum:Rat)) {i:Nat} (hi:i < cs.length):FF w ws cs q i<=FF w ws cs q' i:=by
 obtain ⟨M,a⟩:=xL hw hc q0 (Rat.le_trans l q1)
 obtain ⟨M',b⟩:=xL hw hc (Rat.le_trans q0 l) q1
 exact zJe hw hc a b l hi
theorem zKs {w:Wy} {ws cs:List Int} (hw:w.due ws cs) (hc:Cl cs) {q:Rat} (q0:0<=q) (q1:q<=(cs.sum:Rat)) {i:Nat} (hi:i < cs.length):FF w.con ws cs ((cs.sum:Rat) - q) i=cR cs i - FF w ws cs q i:=by
 obtain ⟨M,a⟩:=xL hw hc q0 q1
 obtain ⟨M',b⟩:=xL (zIz hw) hc (q:=(cs.sum:Rat) - q) (by grind) (by grind)
 exact zJR hw hc q0 q1 a b hi
theorem zAb {f:Nat->Rat}:∀ {l:List Nat},(∀ i∈l,0<=f i)->fY f l=0->∀ i∈l,f i=0
 | [],_,_,i,h=>by cases h
 | a::l,hn,e,i,h=>by
  have p:0<=fY f l:=by
   have:∀ {l:List Nat},(∀ i∈l,0<=f i)->0<=fY f l:=by
    intro l
    induction l with
    | nil=>intro _;rw [fV];exact Rat.le_refl
    | cons b l ih=>intro hl;rw [aX];have:=hl b List.mem_cons_self;have:=ih fun x hx=>hl x (List.mem_cons_of_mem _ hx);grind
   exact this fun x hx=>hn x (List.mem_cons_of_mem _ hx)
  have a0:=hn a List.mem_cons_self
  rw [aX] at e
  rcases List.mem_cons.mp h with rfl | h
  ·grind
  ·exact zAb (fun x hx=>hn x (List.mem_cons_of_mem _ hx)) (by grind) i h
theorem zAG {w:Wy} {ws cs:List Int} (hw:w.due ws cs) (hc:Cl cs) {i:Nat} (hi:i < cs.length):FF w ws cs 0 i=0:=by
 have s0:(0:Rat)<=(cs.sum:Rat):=by exact_mod_cast hc.sum.1
 obtain ⟨b,s⟩:=zKc hw hc Rat.le_refl s0
 exact zAb (fun i hi=>(b i (List.mem_range.mp hi)).1) s i (List.mem_range.mpr hi)
theorem zAT {w:Wy} {ws cs:List Int} (hw:w.due ws cs) (hc:Cl cs) {i:Nat} (hi:i < cs.length):FF w ws cs (cs.sum:Rat) i=cR cs i:=by
 have s0:(0:Rat)<=(cs.sum:Rat):=by exact_mod_cast hc.sum.1
 obtain ⟨b,s⟩:=zKc hw hc s0 Rat.le_refl
 have e:=nR (f:=FF w ws cs (cs.sum:Rat)) (g:=cR cs) (l:=List.range cs.length) (fun i hi=>(b i (List.mem_range.mp hi)).2) (by
  show ((List.range cs.length).map _).sum=_
  rw [s]
  exact (oP cs).symm)
 exact e i (List.mem_range.mpr hi)
theorem zAA:∀ {cs:List Int} {i j:Nat},(∀ c∈cs,0<=c)->i < j->j<=cs.length->(cs.take i).sum+cs.getD i 0<=(cs.take j).sum/\0<=(cs.take i).sum
 | [],i,j,_,h,h'=>by simp at h';omega
 | c::r,i,0,_,h,_=>by omega
 | c::r,0,j+1,hn,_,_=>by
  have hr:∀ l:List Int,(∀ c∈l,0<=c)->0<=l.sum:=by
   intro l
   induction l with
   | nil=>intro _;decide
   | cons a l ih=>intro hl;rw [List.sum_cons];have:=hl a List.mem_cons_self;have:=ih fun x hx=>hl x (List.mem_cons_of_mem _ hx);omega
  have:=hr (r.take j) fun x hx=>hn x (List.mem_cons_of_mem _ (List.mem_of_mem_take hx))
  rw [List.take_succ_cons,List.sum_cons]
  simp
  omega
 | c::r,i+1,j+1,hn,h,h'=>by
  have ih:=zAA (cs:=r) (i:=i) (j:=j) (fun x hx=>hn x (List.mem_cons_of_mem _ hx)) (by omega) (by simpa using h')
  have:=hn c List.mem_cons_self
  rw [List.take_succ_cons,List.sum_cons,List.take_succ_cons,List.sum_cons]
  show c+_+r.getD i 0<=_/\_
  omega
def Jt (w:Wy) (ws cs:List Int) (a b:Rat):Prop:=0<=a/\a<=b/\b<=(cs.sum:Rat)/\∀ i,i < cs.length->Lin (fun x=>FF w ws cs x i) a b
theorem Lin.const {f:Rat->Rat} {a b k:Rat} (hab:a<=b) (h:∀ x,a<=x->x<=b->f x=k):Lin f a b:=fun x h1 h2=>by
 rw [h x h1 h2,h a Rat.le_refl hab,h b hab Rat.le_refl]
 grind
theorem Lin.line {f:Rat->Rat} {a b m k:Rat} (hab:a<=b) (h:∀ x,a<=x->x<=b->f x=m * x+k):Lin f a b:=fun x h1 h2=>by
 rw [h x h1 h2,h a Rat.le_refl hab,h b hab Rat.le_refl]
 grind
def rj:List Int->Int->List Rat
 | [],a=>[(a:Rat)]
 | c::r,a=>(a:Rat)::rj r (a+c)
theorem zAu (r:List Int) (a:Int):∃ t,rj r a=(a:Rat)::t:=by cases r<;>exact ⟨_,rfl⟩
theorem zEx {cs:List Int} (hc:Cl cs):∀ (post pre:List Int),cs=pre++post->Cn (Jt .row [] cs) (rj post pre.sum)
 | [],_,_=>trivial
 | c::r,pre,e=>by
  have ih:=zEx hc r (pre++[c]) (by rw [e];simp)
  rw [List.sum_append,show ([c]:List Int).sum=c by simp] at ih
  obtain ⟨t,et⟩:=zAu r (pre.sum+c)
  rw [rj,et]
  rw [et] at ih
  refine ⟨?_,ih⟩
  have hk:pre.length < cs.length:=by rw [e];simp
  have tk:cs.take pre.length=pre:=by rw [e];exact List.take_left
  have ck:cs.getD pre.length 0=c:=by rw [e,List.getD_eq_getElem?_getD,List.getElem?_append_right (Nat.le_refl _)];simp
  have c0:0<=c:=hc.nn c (by rw [e];simp)
  have p0:0<=pre.sum:=by
   have:∀ l:List Int,(∀ c∈l,0<=c)->0<=l.sum:=by
    intro l
    induction l with
    | nil=>intro _;decide
    | cons a l ih=>intro hl;rw [List.sum_cons];have:=hl a List.mem_cons_self;have:=ih fun x hx=>hl x (List.mem_cons_of_mem _ hx);omega
   exact this pre fun x hx=>hc.nn x (by rw [e];exact List.mem_append_left _ hx)
  have r0:0<=r.sum:=by
   have:∀ l:List Int,(∀ c∈l,0<=c)->0<=l.sum:=by
    intro l
    induction l with
    | nil=>intro _;decide
    | cons a l ih=>intro hl;rw [List.sum_cons];have:=hl a List.mem_cons_self;have:=ih fun x hx=>hl x (List.mem_cons_of_mem _ hx);omega
   exact this r fun x hx=>hc.nn x (by rw [e];exact List.mem_append_right _ (List.mem_cons_of_mem _ hx))
  have se:cs.sum=pre.sum+c+r.sum:=by rw [e,List.sum_append,List.sum_cons];omega
  have ab:(pre.sum:Rat)<=((pre.sum+c:Int):Rat):=Rat.intCast_le_intCast.mpr (by omega)
  have bS:((pre.sum+c:Int):Rat)<=(cs.sum:Rat):=Rat.intCast_le_intCast.mpr (by omega)
  have a0:(0:Rat)<=(pre.sum:Rat):=by exact_mod_cast p0
  refine ⟨a0,ab,bS,fun i hi=>?_⟩
  have fx:∀ x,(pre.sum:Rat)<=x->x<=((pre.sum+c:Int):Rat)->FF .row [] cs x i=mn (ps0 (x - ((0+(cs.take i).sum:Int):Rat))) (cR cs i):=fun x h1 h2=>by
   rw [<-zCD (M:=0) (w:=.row) (ws:=[]) (f:=zAd cs x) rfl hc (Rat.le_trans a0 h1) (Rat.le_trans h2 bS) (fun i _=>rfl) hi]
   exact rG cs 0 x i hi
  have ci:=(zGq hc hi).1
  rcases Nat.lt_trichotomy i pre.length with z | z | z
  ·have tu:=(zAA hc.nn z (Nat.le_of_lt hk)).1
   rw [tk] at tu
   refine Lin.const ab (k:=cR cs i) fun x h1 h2=>?_
   rw [fx x h1 h2]
   have tu':((0+(cs.take i).sum:Int):Rat)+cR cs i<=(pre.sum:Rat):=by
    unfold cR
    rw [<-Rat.intCast_add]
    exact Rat.intCast_le_intCast.mpr (by omega)
   unfold mn ps0
   grind
  ·subst z
   refine Lin.line ab (m:=1) (k:=-(pre.sum:Rat)) fun x h1 h2=>?_
   rw [fx x h1 h2,tk,Int.zero_add]
   have:cR cs pre.length=(c:Rat):=by unfold cR;rw [ck]
   rw [this]
   rw [Rat.intCast_add] at h2
   unfold mn ps0
   grind
  ·have tu:=(zAA hc.nn z (Nat.le_of_lt hi)).1
   rw [tk,ck] at tu
   refine Lin.const ab (k:=0) fun x h1 h2=>?_
   rw [fx x h1 h2]
   have tu':((pre.sum+c:Int):Rat)<=((0+(cs.take i).sum:Int):Rat):=Rat.intCast_le_intCast.mpr (by omega)
   unfold mn ps0
   grind
theorem zKh {cs:List Int} (hc:Cl cs):Cn (Jt .row [] cs) (rj cs 0):=zEx hc cs [] rfl
theorem zFh {cs:List Int} (hc:Cl cs):Cn (Jt .part [] cs) [0,(cs.sum:Rat)]:=by
 have s0:(0:Rat)<=(cs.sum:Rat):=by exact_mod_cast hc.sum.1
 refine ⟨⟨Rat.le_refl,s0,Rat.le_refl,fun i hi=>?_⟩,trivial⟩
 have fx:∀ x,0<=x->x<=(cs.sum:Rat)->FF .part [] cs x i * (cs.sum:Rat)=x * cR cs i:=fun x h1 h2=>by
  rw [<-zCD (M:=0) (w:=.part) (ws:=[]) (f:=iJ cs x) rfl hc h1 h2 (fun i _=>rfl) hi]
  exact (kG hc hi).1
 intro x h1 h2
 have e0:=zAG (w:=.part) (ws:=[]) rfl hc hi
 have e1:=fx x h1 h2
 have e2:=zAT (w:=.part) (ws:=[]) rfl hc hi
 show (FF .part [] cs x i - FF .part [] cs 0 i) * _=_ * (FF .part [] cs (cs.sum:Rat) i - FF .part [] cs 0 i)
 rw [e0,e2]
 generalize FF Wy.part [] cs x i=y at *
 generalize (cs.sum:Rat)=S at *
 generalize cR cs i=c at *
 grind
theorem zDq {R R':Rat->Rat->Prop} {g:Rat->Rat} (h:∀ a b,R a b->R' (g a) (g b)):∀ {l:List Rat},Cn R l->Cn R' (l.map g)
 | [],_=>trivial
 | [_],_=>trivial
 | a::b::l,k=>⟨h a b k.1,zDq h k.2⟩
theorem zDc {R:Rat->Rat->Prop}:∀ {l l':List Rat},Cn R l->Cn R l'->(∀ x y,l.getLast?=some x->l'.head?=some y->R x y)->Cn R (l++l')
 | [],_,_,h,_=>h
 | [a],[],_,_,_=>trivial
 | [a],b::l',_,h,k=>⟨k a b rfl rfl,h⟩
 | a::b::l,l',h,h',k=>⟨h.1,zDc h.2 h' fun x y hx hy=>k x y (by simpa using hx) hy⟩
theorem zDB {R R':Rat->Rat->Prop} {g:Rat->Rat} (h:∀ a b,R a b->R' (g b) (g a)):∀ {l:List Rat},Cn R l->Cn R' (l.reverse.map g)
 | [],_=>trivial
 | [_],_=>trivial
 | a::b::l,k=>by
  have ih:=zDB (l:=b::l) h k.2
  rw [List.reverse_cons,List.map_append]
  refine zDc ih trivial fun x y hx hy=>?_
  rw [List.getLast?_map,List.getLast?_reverse] at hx
  cases hx
  cases hy
  exact h a b k.1
theorem Lin.mir {f g:Rat->Rat} {a b S c:Rat} (hab:a<=b) (h:Lin f a b) (hg:∀ x,a<=x->x<=b->g (S - x)=c - f x):Lin g (S - b) (S - a):=fun x h1 h2=>by
 have k:=h (S - x) (by grind) (by grind)
 have e:=hg (S - x) (by grind) (by grind)
 rw [show S - (S - x)=x by grind] at e
 rw [e,hg a Rat.le_refl hab,hg b hab Rat.le_refl]
 grind
theorem zGH {w:Wy} {ws cs:List Int} (hw:w.due ws cs) (hc:Cl cs) {a b:Rat} (h:Jt w ws cs a b):Jt w.con ws cs ((cs.sum:Rat) - b) ((cs.sum:Rat) - a):=by
 obtain ⟨h1,h2,h3,h4⟩:=h
 refine ⟨by grind,by grind,by grind,fun i hi=>?_⟩
 exact Lin.mir h2 (h4 i hi) (c:=cR cs i) fun x x1 x2=>zKs hw hc (Rat.le_trans h1 x1) (Rat.le_trans x2 h3) hi
theorem zLM {ws cs:List Int} (h:Wt ws cs) (hc:Cl cs) {s t:Rat} (s0:0<=s) (st:s<=t) (n:zJp ws cs s t):Jt .even ws cs (QQ ws cs s) (QQ ws cs t):=by
 have g0:∀ i,i < cs.length->∀ t,0<=t->0<=dN (cR cs) (cR ws) t i/\dN (cR cs) (cR ws) t i<=cR cs i:=fun i hi t t0=>lA h hc t0 hi
 have q0:0<=QQ ws cs s:=by
  have:fY (fun i=>cR ws i * 0) (List.range cs.length)<=QQ ws cs s:=nS fun i hi=>by
   have:=(g0 i (List.mem_range.mp hi) s s0).1
   grind
  rw [cW] at this
  grind
 have q1:QQ ws cs t<=(cs.sum:Rat):=by
  have:QQ ws cs t<=fY (cR cs) (List.range cs.length):=nS fun i hi=>(g0 i (List.mem_range.mp hi) t (Rat.le_trans s0 st)).2
  have e:fY (cR cs) (List.range cs.length)=(cs.sum:Rat):=oP cs
  rw [e] at this
  exact this
 refine ⟨q0,lP h st,q1,fun i hi=>zJW h st n hi fun x x1 x2=>?_⟩
 obtain ⟨M,u,tl,e⟩:=xL (w:=.even) h hc (Rat.le_trans q0 x1) (Rat.le_trans x2 q1)
 exact ⟨u,tl.sum,e i hi⟩
theorem zIN {ws cs:List Int} (h:Wt ws cs) (hc:Cl cs) {ls:List Rat} (so:ls.Pairwise (·<=·)) (hm:∀ i,i < cs.length->lv ws cs i∈ls) (h0:∀ x∈ls,0<=x):Cn (Jt .even ws cs) ((0::ls).map (QQ ws cs)):=by
 have so':(0::ls).Pairwise (·<=·):=List.pairwise_cons.mpr ⟨h0,so⟩
 have cn:=rN (A:=0::ls) so' fun x hx=>.inl hx
 have pos:∀ {l:List Rat},(∀ x∈l,0<=x)->Cn (fun s t=>s<=t/\∀ x∈0::ls,x<=s∨t<=x) l->Cn (fun s t=>0<=s/\s<=t/\∀ x∈0::ls,x<=s∨t<=x) l:=by
  intro l
  induction l with
  | nil=>intro _ _;trivial
  | cons a r ih=>
   intro hp k
   cases r with
   | nil=>trivial
   | cons b r=>exact ⟨⟨hp a List.mem_cons_self,k.1⟩,ih (fun x hx=>hp x (List.mem_cons_of_mem _ hx)) k.2⟩
 refine zDq (fun a b hab=>?_) (pos (fun x hx=>?_) cn)
 ·exact zLM h hc hab.1 hab.2.1 fun i hi=>hab.2.2 _ (List.mem_cons_of_mem _ (hm i hi))
 ·rcases List.mem_cons.mp hx with rfl | hx
  ·exact Rat.le_refl
  ·exact h0 x hx
theorem zIF {cs:List Int} (hc:Cl cs) {q:Rat} (q0:0<=q) (q1:q+q<=(cs.sum:Rat)) {i:Nat} (hi:i < cs.length):FF .half [] cs q i=FF .even (ones cs) cs (q+q) i * hf:=by
 have s0:(0:Rat)<=(cs.sum:Rat):=by exact_mod_cast hc.sum.1
 obtain ⟨M,t,tl,e⟩:=xL (w:=.even) (ws:=ones cs) (gK cs) hc (q:=q+q) (by grind) q1
 rw [<-zCD (M:=M) (w:=.half) (ws:=[]) (f:=fun i=>dN (cR cs) (cR (ones cs)) t i * hf) rfl hc q0 (by grind) ⟨t,.inl ⟨q1,tl,fun i _=>rfl⟩⟩ hi,e i hi]
theorem zII {cs:List Int} (hc:Cl cs) {a b:Rat} (h:Jt .even (ones cs) cs a b):Jt .half [] cs (a * hf) (b * hf):=by
 obtain ⟨h1,h2,h3,h4⟩:=h
 have tw:∀ x:Rat,x * hf+x * hf=x:=fun x=>by rw [oC];grind
 have ta:=tw a
 have tb:=tw b
 have p:(0:Rat) < hf:=by rw [oC];grind
 have l1:=Rat.mul_le_mul_of_nonneg_right h1 (Rat.le_of_lt p)
 have l2:=Rat.mul_le_mul_of_nonneg_right h2 (Rat.le_of_lt p)
 refine ⟨by grind,l2,by grind,fun i hi x x1 x2=>?_⟩
 have fx:∀ y,a * hf<=y->y<=b * hf->FF .half [] cs y i=FF .even (ones cs) cs (y+y) i * hf:=fun y y1 y2=>zIF hc (by grind) (by grind) hi
 show (FF .half [] cs x i - FF .half [] cs (a * hf) i) * _=_ * (FF .half [] cs (b * hf) i - FF .half [] cs (a * hf) i)
 rw [fx x x1 x2,fx (a * hf) Rat.le_refl l2,fx (b * hf) l2 Rat.le_refl,ta,tb]
 have k:=h4 i hi (x+x) (by grind) (by grind)
 have k':(FF .even (ones cs) cs (x+x) i - FF .even (ones cs) cs a i) * (b - a)=(x+x - a) * (FF .even (ones cs) cs b i - FF .even (ones cs) cs a i):=k
 rw [show b * hf - a * hf=(b - a) * hf by grind]
 have hh:hf * (1+1)=1:=by rw [oC];grind
 generalize FF Wy.even (ones cs) cs (x+x) i=u at *
 generalize FF Wy.even (ones cs) cs a i=v at *
 generalize FF Wy.even (ones cs) cs b i=z at *
 generalize hf=H at *
 grind
structure JL (w:Wy) (ws cs:List Int) (l:List Rat):Prop where
 cn:Cn (Jt w ws cs) l
 hd:l.head?=some 0
 la:l.getLast?=some (cs.sum:Rat)
def ddR:Rat->List Rat->List Rat
 | _,[]=>[]
 | k,x::l=>if k < x then x::ddR x l else ddR k l
theorem zHv {w:Wy} {ws cs:List Int}:∀ {l:List Rat} {k:Rat},Cn (Jt w ws cs) (k::l)->Cn (fun a b=>a < b/\Jt w ws cs a b) (k::ddR k l)/\(k::ddR k l).getLast?=(k::l).getLast?
 | [],k,_=>⟨trivial,rfl⟩
 | x::l,k,h=>by
  rw [ddR]
  by_cases z:k < x
  ·rw [if_pos z]
   obtain ⟨i1,i2⟩:=zHv h.2
   refine ⟨⟨⟨z,h.1⟩,i1⟩,?_⟩
   rw [List.getLast?_cons_cons,List.getLast?_cons_cons]
   exact i2
  ·rw [if_neg z]
   have e:k=x:=by have:=h.1.2.1;grind
   subst e
   obtain ⟨i1,i2⟩:=zHv h.2
   refine ⟨i1,?_⟩
   rw [i2,List.getLast?_cons_cons]
theorem zDn:∀ (l:List Rat) (k:Rat),(ddR k l).Sublist l
 | [],_=>List.Sublist.refl _
 | x::l,k=>by
  rw [ddR]
  split
  ·exact (zDn l x).cons₂ x
  ·exact (zDn l k).cons x
structure JS (w:Wy) (ws cs:List Int) (l:List Rat):Prop where
 cn:Cn (fun a b=>a < b/\Jt w ws cs a b) l
 hd:l.head?=some 0
 la:l.getLast?=some (cs.sum:Rat)
theorem JL.js {w:Wy} {ws cs:List Int} {l:List Rat} (h:JL w ws cs (0::l)):JS w ws cs (0::ddR 0 l):=by
 obtain ⟨a,b⟩:=zHv h.cn
 exact ⟨a,rfl,by rw [b];exact h.la⟩
theorem zHX {R:Rat->Rat->Prop}:∀ {l:List Rat},Cn (fun a b=>a < b/\R a b) l->l.Pairwise (· < ·)
 | [],_=>.nil
 | [a],_=>List.pairwise_singleton ..
 | a::b::l,h=>by
  have ih:=zHX h.2
  refine List.pairwise_cons.mpr ⟨fun x hx=>?_,ih⟩
  rcases List.mem_cons.mp hx with rfl | hx
  ·exact h.1.1
  ·have z1:=h.1.1
   have z2:=(List.pairwise_cons.mp ih).1 x hx
   grind
theorem zIw {R:Rat->Rat->Prop}:∀ {l:List Rat} {k:Nat} {a b:Rat},Cn R l->l[k]?=some a->l[k+1]?=some b->R a b
 | x::y::l,0,a,b,h,e1,e2=>by cases e1;cases e2;exact h.1
 | x::y::l,k+1,a,b,h,e1,e2=>zIw (k:=k) h.2 (by simpa using e1) (by simpa using e2)
 | [x],0,a,b,h,e1,e2=>by simp at e2
 | [x],k+1,a,b,h,e1,e2=>by simp at e2
 | [],k,a,b,h,e1,e2=>by simp at e1
def jpt (w:Wy) (ws cs:List Int) (l:List Rat) (i:Nat):List Pt:=l.map fun q=>(q,FF w ws cs q i)
theorem JS.bd {w:Wy} {ws cs:List Int} {l:List Rat} (h:JS w ws cs l):∀ x∈l,0<=x/\x<=(cs.sum:Rat):=by
 have p:=zHX h.cn
 intro x hx
 obtain ⟨hd,la⟩:=(⟨h.hd,h.la⟩:_/\_)
 cases l with
 | nil=>cases hx
 | cons a r=>
  cases hd
  refine ⟨?_,?_⟩
  ·rcases List.mem_cons.mp hx with rfl | hx
   ·exact Rat.le_refl
   ·exact Rat.le_of_lt ((List.pairwise_cons.mp p).1 x hx)
  ·have key:∀ {l:List Rat} {e x:Rat},l.Pairwise (· < ·)->l.getLast?=some e->x∈l->x<=e:=by
    intro l
    induction l with
    | nil=>intro e x _ _ hx;cases hx
    | cons a r ih=>
     intro e x hp he hx
     obtain ⟨p1,p2⟩:=List.pairwise_cons.mp hp
     cases r with
     | nil=>rw [List.mem_singleton.mp hx];cases he;exact Rat.le_refl
     | cons b r=>
      rw [List.getLast?_cons_cons] at he
      rcases List.mem_cons.mp hx with rfl | hx
      ·exact Rat.le_trans (Rat.le_of_lt (p1 b List.mem_cons_self)) (ih p2 he List.mem_cons_self)
      ·exact ih p2 he hx
   exact key p la hx
theorem zCg {w:Wy} {ws cs:List Int} {l:List Rat} (hw:w.due ws cs) (hc:Cl cs) (h:JS w ws cs l) {i:Nat} (hi:i < cs.length):Ok (jpt w ws cs l i)/\(jpt w ws cs l i).getLast?=some ((cs.sum:Rat),cR cs i):=by
 have b:=h.bd
 refine ⟨⟨?_,?_⟩,?_⟩
 ·unfold jpt
  rw [List.head?_map,h.hd]
  show some ((0:Rat),FF w ws cs 0 i)=_
  rw [zAG hw hc hi]
 ·unfold jpt
  rw [List.pairwise_map]
  refine List.Pairwise.imp_of_mem (fun {x y} hx hy hxy=>?_) (zHX h.cn)
  exact ⟨hxy,zFb hw hc (b x hx).1 (Rat.le_of_lt hxy) (b y hy).2 hi⟩
 ·unfold jpt
  rw [List.getLast?_map,h.la]
  show some ((cs.sum:Rat),FF w ws cs (cs.sum:Rat) i)=_
  rw [zAT hw hc hi]
theorem zJg {w:Wy} {ws cs:List Int} {l:List Rat} (hw:w.due ws cs) (hc:Cl cs) (h:JS w ws cs l) {i:Nat} (hi:i < cs.length) {x:Rat} (x0:0<=x) (x1:x<=(cs.sum:Rat)):dQ (jpt w ws cs l i) x=FF w ws cs x i:=by
 obtain ⟨ok,la⟩:=zCg hw hc h hi
 have pt:∀ {k:Nat} {p:Pt},(jpt w ws cs l i)[k]?=some p->l[k]?=some p.1/\p.2=FF w ws cs p.1 i:=fun {k p} e=>by
  unfold jpt at e
  rw [List.getElem?_map] at e
  cases hk:l[k]? with
  | none=>rw [hk] at e;cases e
  | some a=>rw [hk] at e;cases e;exact ⟨rfl,rfl⟩
 rcases zFj ok.2 la (fun p hp=>by rw [ok.1] at hp;cases hp;exact x0) x1 with ⟨k,p,e1,e2⟩ | ⟨k,p,q,e1,e2,e3,e4⟩
 ·have v:=gY ok.2 e1
  rw [(pt e1).2,e2] at v
  exact v
 ·rw [qB ok.2 e1 e2 (Rat.le_of_lt e3) (Rat.le_of_lt e4)]
  obtain ⟨a1,a2⟩:=pt e1
  obtain ⟨b1,b2⟩:=pt e2
  obtain ⟨lt,j⟩:=zIw h.cn a1 b1
  have k:=j.2.2.2 i hi x (Rat.le_of_lt e3) (Rat.le_of_lt e4)
  have k':(FF w ws cs x i - FF w ws cs p.1 i) * (q.1 - p.1)=(x - p.1) * (FF w ws cs q.1 i - FF w ws cs p.1 i):=k
  unfold itp
  rw [a2,b2]
  generalize FF w ws cs x i=u at *
  generalize FF w ws cs p.1 i=v at *
  generalize FF w ws cs q.1 i=z at *
  have nz:q.1 - p.1≠0:=by grind
  refine jH nz ?_
  have e:(x - p.1) / (q.1 - p.1) * (q.1 - p.1)=x - p.1:=Rat.div_mul_cancel nz
  generalize (x - p.1) / (q.1 - p.1)=r at *
  grind
def wln (w:Wy) (ws cs:List Int) (l:List Rat) (i:Nat):List Pt:=kX (jpt w ws cs l i)
theorem xO {w:Wy} {ws cs:List Int} {l:List Rat} (hw:w.due ws cs) (hc:Cl cs) (h:JS w ws cs l) {i:Nat} (hi:i < cs.length):zJl (wln w ws cs l i)/\(wln w ws cs l i).getLast?=some ((cs.sum:Rat),cR cs i)/\(∀ p∈wln w ws cs l i,p.1∈l/\p.2=FF w ws cs p.1 i)/\∀ x,0<=x->x<=(cs.sum:Rat)->dQ (wln w ws cs l i) x=FF w ws cs x i:=by
 obtain ⟨ok,la⟩:=zCg hw hc h hi
 unfold wln
 refine ⟨pU ok,by rw [qT ok.2];exact la,fun p hp=>?_,fun x x0 x1=>by rw [uE ok.2];exact zJg hw hc h hi x0 x1⟩
 have m:=(uG ok.2).subset hp
 unfold jpt at m
 obtain ⟨q,hq,rfl⟩:=List.mem_map.mp m
 exact ⟨hq,rfl⟩
theorem zHO {w:Wy} {ws cs:List Int} {l l':List Rat} (hw:w.due ws cs) (hc:Cl cs) (h:JS w ws cs l) (h':JS w ws cs l') {i:Nat} (hi:i < cs.length):wln w ws cs l i=wln w ws cs l' i:=by
 obtain ⟨a1,a2,_,a3⟩:=xO hw hc h hi
 obtain ⟨b1,b2,_,b3⟩:=xO hw hc h' hi
 exact zDk a1 b1 a2 b2 rfl fun x x0 x1=>by rw [a3 x x0 x1,b3 x x0 x1]
theorem rS:∀ {l m:List Rat},l.Perm m->l.Pairwise (·<=·)->m.Pairwise (·<=·)->l=m
 | [],m,p,_,_=>(List.nil_perm.mp p).symm
 | a::l,[],p,_,_=>by cases (List.perm_nil.mp p)
 | a::l,b::m,p,h,k=>by
  obtain ⟨h1,h2⟩:=List.pairwise_cons.mp h
  obtain ⟨k1,k2⟩:=List.pairwise_cons.mp k
  have e:a=b:=by
   have x:a<=b:=by
    rcases List.mem_cons.mp (p.mem_iff.mpr List.mem_cons_self) with e | e
    ·rw [e];exact Rat.le_refl
    ·exact h1 b e
   have y:b<=a:=by
    rcases List.mem_cons.mp (p.mem_iff.mp List.mem_cons_self) with e | e
    ·rw [e];exact Rat.le_refl
    ·exact k1 a e
   grind
  subst e
  rw [rS (List.perm_cons a |>.mp p) h2 k2]
theorem yX {cs:List Int} {cd:D} (sc:Sq cd cs) (hc:Cl cs):eE [cd]=.ok (.f ((rj cs 0).map dq)):=by
 have hi:=hc.hi
 have lp:∀ (r:List Int) (a:Int) (acc:List D) (s:Sl),acc.length+r.length<=1000->∃ a' s',fP (gName 3) kT (r.map D.int) [.val cd,.val (.int a),.own (acc++[dq (a:Rat)]),s]=.ok (.nx [.val cd,a',.own (acc++(rj r a).map dq),s']):=by
  intro r
  induction r with
  | nil=>intro a acc s _;exact ⟨_,s,rfl⟩
  | cons c r ih=>
   intro a acc s hl
   rw [List.length_cons] at hl
   obtain ⟨a',s',e⟩:=ih (a+c) (acc++[dq (a:Rat)]) (.val (.int c)) (by rw [List.length_append];simp;omega)
   refine ⟨a',s',?_⟩
   rw [List.map_cons,dG (ρ1:=[.val cd,.val (.int a),.own (acc++[dq (a:Rat)]),.val (.int c)]) (ρ2:=[.val cd,.val (.int (a+c)),.own (acc++[dq (a:Rat)]++[dq ((a+c:Int):Rat)]),.val (.int c)]) rfl (by
    walk_at "ev"
    rw [bW]
    walk_at "ev"
    rw [if_pos (by rw [List.length_append];simp;omega)]),e,rj,List.map_cons,List.append_assoc]
   rfl
 obtain ⟨a',s',e⟩:=lp cs 0 [] .un (by simp;omega)
 rw [List.nil_append,List.nil_append] at e
 unfold eE
 walk_at "ev"
 rw [sc.seq]
 walk_at "ev"
 have e0:dq ((0:Int):Rat)=dq 0:=rfl
 rw [e0] at e
 rw [e]
 walk_at "ev"
theorem zEq {ws cs:List Int} (h:Wt ws cs) {i:Nat} {pre post:List Nat} (hm:∀ j∈pre++i::post,j < cs.length) (so:(pre++i::post).Pairwise fun a b=>lv ws cs a<=lv ws cs b) (p:(pre++i::post).Perm (List.range cs.length)):QQ ws cs (lv ws cs i)=((wS cs pre:Int):Rat)+lv ws cs i * ((wS ws (i::post):Int):Rat):=by
 unfold QQ
 rw [<-qO p]
 have app:∀ (f:Nat->Rat) (a b:List Nat),fY f (a++b)=fY f a+fY f b:=by
  intro f a b
  induction a with
  | nil=>rw [List.nil_append,fV,Rat.zero_add]
  | cons x a ih=>rw [List.cons_append,aX,aX,ih];grind
 obtain ⟨s1,s2,s3⟩:=List.pairwise_append.mp so
 rw [app,dM (g:=cR cs) (l:=pre) fun j hj=>zDL h (hm j (List.mem_append_left _ hj)) (s3 j hj i List.mem_cons_self),kC]
 rw [dM (g:=fun j=>cR ws j * lv ws cs i) (l:=i::post) fun j hj=>zEl h (hm j (List.mem_append_right _ hj)) (by
  rcases List.mem_cons.mp hj with rfl | hj
  ·exact Rat.le_refl
  ·exact (List.pairwise_cons.mp s2).1 j hj),cW,kC]
theorem zKP {ws cs:List Int} (h:Wt ws cs) (hc:Cl cs) {i:Nat} (hi:i < cs.length):Sz 104 (lv ws cs i)/\Dn (ws.getD i 0) (lv ws cs i):=by
 have w:=h.at hi
 have c1:=hc.nn _ (List.mem_of_getElem? (bE hi))
 have c2:=hc.up _ (List.mem_of_getElem? (bE hi))
 refine ⟨?_,cs.getD i 0,?_⟩
 ·unfold lv cR
  rw [<-Rat.divInt_eq_div]
  exact Sz.of (by omega) (by omega) (by omega)
 ·have e:=zBm h hi
  have e':((ws.getD i 0:Int):Rat) * lv ws cs i=((cs.getD i 0:Int):Rat):=e
  rw [<-e']
  grind
theorem zHE {cs:List Int} (hn:∀ c∈cs,0<=c):∀ {π:List Nat},(∀ i∈π,i < cs.length)->0<=wS cs π
 | [],_=>by show (0:Int)<=0;decide
 | i::π,h=>by
  rw [kH]
  have a:=hn _ (List.mem_of_getElem? (bE (h i List.mem_cons_self)))
  have b:=zHE hn fun j hj=>h j (List.mem_cons_of_mem _ hj)
  omega
theorem zGL (cs:List Int) (a b:List Nat):wS cs (a++b)=wS cs a+wS cs b:=by unfold wS;rw [List.map_append,List.sum_append]
theorem mP {ws cs:List Int} {wd cd:D} (sw:Sq wd ws) (sc:Sq cd cs) (h:Wt ws cs) (hc:Cl cs):∃ ls:List Rat,cT [wd,cd]=.ok (.f (((0::ls).map (QQ ws cs)).map dq))/\ls.Pairwise (·<=·)/\ls.Perm ((List.range cs.length).map (lv ws cs))/\QQ ws cs 0=0:=by
 have hcc:∀ c∈cs,0<=c/\c < 10^30:=fun c h=>⟨hc.nn c h,hc.up c h⟩
 have hi:=hc.hi
 have sm:=hc.sum
 have hw:=h.len
 have hkr:=uF (zHr h hcc) (by rw [vM hw];exact hi)
 generalize hkz:(lvs ws cs).map (zFl (pM (lvs ws cs)))=kz at hkr
 have lz:kz.length=cs.length:=by rw [<-hkz,List.length_map,vM hw]
 have B0:(0:Rat) < (pM (lvs ws cs):Rat):=by exact_mod_cast wY (lvs ws cs)
 have kat:∀ i,i < cs.length->((kz.getD i 0:Int):Rat)=lv ws cs i * (pM (lvs ws cs):Rat):=fun i h=>by
  have e:=zDH hw h
  have e2:kz.getD i 0=zFl (pM (lvs ws cs)) (cR cs i / cR ws i):=by rw [<-hkz,List.getD_eq_getElem?_getD,List.getElem?_map,e];rfl
  rw [e2]
  exact zGE (List.mem_of_getElem? e)
 have z0:QQ ws cs 0=0:=by
  unfold QQ
  rw [dM (g:=fun i=>cR ws i * 0) fun i hi=>zEl h (List.mem_range.mp hi) (zFw h hc (List.mem_range.mp hi)),cW]
  grind
 have ord:∀ π,fK kz π->π.Perm (List.range cs.length)/\(∀ i∈π,i < cs.length)/\π.Pairwise fun a b=>lv ws cs a<=lv ws cs b:=by
  intro π hπ
  obtain ⟨hp,ho⟩:=hπ
  rw [lz] at hp
  have hm:∀ i∈π,i < cs.length:=fun i h=>List.mem_range.mp (hp.mem_iff.mp h)
  refine ⟨hp,hm,List.Pairwise.imp_of_mem (fun {i j} h1 h2 h3=>?_) ho⟩
  have h4:((kz.getD i 0:Int):Rat)<=((kz.getD j 0:Int):Rat):=Rat.intCast_le_intCast.mpr h3
  rw [kat i (hm i h1),kat j (hm j h2)] at h4
  exact Rat.le_of_mul_le_mul_right h4 B0
 obtain ⟨π0,hπ0⟩:=zAe kz
 obtain ⟨p0,m0,s0⟩:=ord π0 hπ0
 have key:∀ π,fK kz π->π.map (lv ws cs)=π0.map (lv ws cs):=fun π hπ=>by
  obtain ⟨p1,m1,s1⟩:=ord π hπ
  exact rS ((p1.trans p0.symm).map _) (List.pairwise_map.mpr s1) (List.pairwise_map.mpr s0)
 refine ⟨π0.map (lv ws cs),?_,List.pairwise_map.mpr s0,p0.map _,z0⟩
 have lp:∀ (π:List Nat) (hπ:π.Perm (List.range cs.length)) (so:π.Pairwise fun a b=>lv ws cs a<=lv ws cs b) (post pre:List Nat) (acc:List D) (s:Sl),π=pre++post->acc.length+post.length<=100->∃ a' b' s',fP (gName 6) eQ (hU post) [.val wd,.val cd,.val (.int (wS cs pre)),.val (.int (wS ws post)),.val (.lst ((lvs ws cs).map dq)),.own acc,s]=.ok (.nx [.val wd,.val cd,a',b',.val (.lst ((lvs ws cs).map dq)),.own (acc++post.map fun i=>dq (QQ ws cs (lv ws cs i))),s']):=by
  intro π hπ so post
  induction post with
  | nil=>intro pre acc s _ _;exact ⟨_,_,s,by rw [List.map_nil,List.append_nil];rfl⟩
  | cons i post ih=>
   intro pre acc s e hl
   have hm:∀ j∈pre++i::post,j < cs.length:=fun j hj=>List.mem_range.mp (hπ.mem_iff.mp (by rw [e];exact hj))
   have hii:=hm i (by simp)
   have ss:=zEq h hm (by rw [<-e];exact so) (by rw [<-e];exact hπ)
   have W:=h.sum (π:=i::post) fun j hj=>hm j (List.mem_append_right _ hj)
   have ln:(pre++i::post).length=cs.length:=by rw [<-e,hπ.length_eq,List.length_range]
   rw [List.length_append,List.length_cons] at ln
   rw [List.length_cons] at W hl
   have F0:=zHE hc.nn (π:=pre) fun j hj=>hm j (List.mem_append_left _ hj)
   have F1:wS cs pre<=cs.sum:=by
    have t:=uW (ws:=cs) (π:=pre++i::post) (by rw [<-e];exact hπ)
    rw [zGL] at t
    have:=zHE hc.nn (π:=i::post) fun j hj=>hm j (List.mem_append_right _ hj)
    omega
   obtain ⟨a',b',s',e'⟩:=ih (pre++[i]) (acc++[dq (QQ ws cs (lv ws cs i))]) (.val (.int (i:Nat))) (by rw [e];simp) (by rw [List.length_append];simp;omega)
   refine ⟨a',b',s',?_⟩
   have zl:=(zKP h hc hii).1
   have zW:Sz 24 ((wS ws (i::post):Int):Rat):=bZ (by omega) (by decide)
   have zF:Sz 105 ((wS cs pre:Int):Rat):=bZ (by omega) (by decide)
   have ixl:oIx (.lst ((lvs ws cs).map dq)) (.int (i:Int))=.ok (dq (lv ws cs i)):=rD (Int.natCast_nonneg i) (zDH hw hii)
   show fP _ _ (.int (i:Nat)::hU post) _=_
   rw [dG (ρ1:=[.val wd,.val cd,.val (.int (wS cs pre)),.val (.int (wS ws (i::post))),.val (.lst ((lvs ws cs).map dq)),.own acc,.val (.int (i:Nat))]) (ρ2:=[.val wd,.val cd,.val (.int (wS cs (pre++[i]))),.val (.int (wS ws post)),.val (.lst ((lvs ws cs).map dq)),.own (acc++[dq (QQ ws cs (lv ws cs i))]),.val (.int (i:Nat))]) rfl (by
    walk_at "ev"
    rw [bW]
    walk_at "ev"
    rw [ixl]
    walk_at "ev"
    rw [bW]
    walk_at "ev"
    rw [lC zl zW (by decide)]
    walk_at "ev"
    rw [zCl zF (zl.mul zW) (by decide),<-ss]
    walk_at "ev"
    rw [if_pos (by omega)]
    walk_at "ev"
    rw [sc.ix hii]
    walk_at "ev"
    rw [sw.ix (by omega)]
    walk_at "ev"
    rw [zGL,kH ws,show wS cs [i]=cs.getD i 0 by unfold wS;simp,show ws.getD i 0+wS ws post - ws.getD i 0=wS ws post by omega]),e',List.append_assoc]
   rfl
 have one:∀ π,fK kz π->bF (fun ρ=>fP (gName 6) eQ (hU π) ρ) jW [.val wd,.val cd,.val (.int 0),.val (.int ws.sum),.val (.lst ((lvs ws cs).map dq)),.own [dq 0],.un]=.ok (.ret (.f (((0::π0.map (lv ws cs)).map (QQ ws cs)).map dq))):=by
  intro π hπ
  obtain ⟨p1,m1,s1⟩:=ord π hπ
  have lπ:π.length=cs.length:=by rw [p1.length_eq,List.length_range]
  obtain ⟨a',b',s',e⟩:=lp π p1 s1 π [] [dq 0] .un rfl (by simp;omega)
  rw [show wS cs []=0 from rfl,uW (ws:=ws) (π:=π) (by rw [hw];exact p1)] at e
  refine (zHk (a:=fun ρ=>fP (gName 6) eQ (hU π) ρ) e).trans ?_
  rw [<-key π hπ,List.map_cons,z0,List.map_cons,List.map_map,List.map_map]
  rfl
 unfold cT
 walk_at "ev"
 rw [sw.sum]
 walk_at "ev"
 rw [pP sw sc h hi]
 walk_at "ev"
 unfold jS
 rw [zDb (kz:=kz) (by walk_at "ev"; exact hkr) one]
 rfl
theorem nO {l:List Rat} {S:Int} (hl:l.length<=1000) (hz:∀ x∈l,Sz 300 x) (hS:S.natAbs < 2^105):fG [.lst (l.map dq),dq (S:Rat)]=.ok (.f ((l.reverse.map fun x=>(S:Rat) - x).map dq)):=by
 have zS:Sz 105 (S:Rat):=bZ hS (by decide)
 unfold fG
 walk_at "ev"
 rw [show (l.map dq).reverse=l.reverse.map dq by rw [List.map_reverse]]
 rw [jD (u:=dq) (g:=fun x=>dq ((S:Rat) - x)) (by rw [List.length_reverse];omega) (fun x hx=>by
  walk_at "ev"
  rw [fB zS (hz x (List.mem_reverse.mp hx)) (by decide)]
  walk_at "ev")]
 walk_at "ev"
 rw [List.map_map]
 rfl
theorem nX {l:List Rat} (hl:l.length<=900) (hz:∀ x∈0::l,Sz 300 x):cN [.lst ((0::l).map dq)]=.ok (.f ((0::ddR 0 l).map dq)):=by
 have lp:∀ (r:List Rat) (acc:List Rat) (k:Rat) (d:Sl) (s:Sl),(∀ x∈r,Sz 300 x)->Sz 300 k->acc.length+r.length<=1000->∃ s',fP (gName 2) gC (r.map dq) [d,.own ((acc++[k]).map dq),s]=.ok (.nx [d,.own ((acc++k::ddR k r).map dq),s']):=by
  intro r
  induction r with
  | nil=>intro acc k d s _ _ _;exact ⟨s,rfl⟩
  | cons x r ih=>
   intro acc k d s hr hk hl
   rw [List.length_cons] at hl
   have hx:=hr x List.mem_cons_self
   have ixk:oIx (.lst ((acc++[k]).map dq)) (.int (-1))=.ok (dq k):=uX (k:=1) rfl (by decide) (by rw [List.length_append];simp) (by rw [List.length_append];simp)
   have hr':∀ y∈r,Sz 300 y:=fun y hy=>hr y (List.mem_cons_of_mem _ hy)
   rw [List.map_cons,ddR]
   by_cases z:k < x
   ·obtain ⟨s',e⟩:=ih (acc++[k]) x d (.val (dq x)) hr' hx (by rw [List.length_append];simp;omega)
    refine ⟨s',?_⟩
    rw [if_pos z,dG (ρ1:=[d,.own ((acc++[k]).map dq),.val (dq x)]) (ρ2:=[d,.own ((acc++[k]++[x]).map dq),.val (dq x)]) rfl (by
     cases d<;>(
      walk_at "ev"
      rw [ixk]
      walk_at "ev"
      rw [qD hk hx (by decide),decide_eq_true z]
      walk_at "ev"
      rw [if_pos (by rw [List.length_append];simp;omega),List.map_append (l₁:=acc++[k])]
      rfl)),e,List.append_assoc]
    rfl
   ·obtain ⟨s',e⟩:=ih acc k d (.val (dq x)) hr' hk (by omega)
    refine ⟨s',?_⟩
    rw [if_neg z,dG (ρ1:=[d,.own ((acc++[k]).map dq),.val (dq x)]) (ρ2:=[d,.own ((acc++[k]).map dq),.val (dq x)]) rfl (by
     cases d<;>(
      walk_at "ev"
      rw [ixk]
      walk_at "ev"
      rw [qD hk hx (by decide),decide_eq_false z]
      walk_at "ev")),e]
 obtain ⟨s',e⟩:=lp (0::l) [] 0 (.val (.lst ((0::l).map dq))) .un hz ⟨by decide,by decide⟩ (by simp;omega)
 rw [List.nil_append,List.nil_append,ddR,if_neg (by decide)] at e
 unfold cN
 walk_at "ev"
 rw [zGj (by decide),show ((1:Int).toNat)=1 from rfl,show List.take 1 (dq 0::l.map dq)=[0].map dq from rfl]
 rw [List.map_cons] at e
 rw [e]
 rfl
theorem zLT {B S:Int} {x:Rat} (h:Dn B x) (hB:0 < B) (hB':B < 2^30) (h0:0<=x) (h1:x<=(S:Rat)) (hS:S < 2^104):Sz 300 x:=(h.sz (a:=104) (b:=30) hB hB' h0 h1 hS).mono (by decide)
def Jd (cs:List Int) (l:List Rat):Prop:=l.length<=30/\∀ x∈l,∃ B:Int,0 < B/\B<=2 * 10^6/\Dn B x
theorem zHM {w:Wy} {ws cs:List Int}:∀ {l:List Rat},Cn (Jt w ws cs) l->2<=l.length->∀ x∈l,0<=x/\x<=(cs.sum:Rat)
 | [],_,h,x,hx=>by cases hx
 | [a],_,h,x,hx=>by simp at h
 | [a,b],h,_,x,hx=>by
  obtain ⟨h1,h2,h3,_⟩:=h.1
  rcases List.mem_cons.mp hx with rfl | hx
  ·exact ⟨h1,Rat.le_trans h2 h3⟩
  ·rw [List.mem_singleton.mp hx];exact ⟨Rat.le_trans h1 h2,h3⟩
 | a::b::c::l,h,_,x,hx=>by
  obtain ⟨h1,h2,h3,_⟩:=h.1
  rcases List.mem_cons.mp hx with rfl | hx
  ·exact ⟨h1,Rat.le_trans h2 h3⟩
  ·exact zHM h.2 (by simp) x hx
theorem zGY:∀ (r:List Int) (a:Int),∀ x∈rj r a,∃ k:Int,x=(k:Rat)
 | [],a,x,h=>⟨a,List.mem_singleton.mp h⟩
 | c::r,a,x,h=>by
  rcases List.mem_cons.mp h with rfl | h
  ·exact ⟨a,rfl⟩
  ·exact zGY r (a+c) x h
theorem zHp:∀ (r:List Int) (a:Int),(rj r a).length=r.length+1/\(rj r a).getLast?=some ((a+r.sum:Int):Rat)
 | [],a=>⟨rfl,by show some (a:Rat)=_;rw [List.sum_nil,Int.add_zero]⟩
 | c::r,a=>by
  obtain ⟨h1,h2⟩:=zHp r (a+c)
  refine ⟨by rw [rj,List.length_cons,h1,List.length_cons],?_⟩
  obtain ⟨t,et⟩:=zAu r (a+c)
  rw [rj,et,List.getLast?_cons_cons,<-et,h2,List.sum_cons,Int.add_assoc]
theorem zHu {ws cs:List Int} (h:Wt ws cs) (hc:Cl cs) {ls:List Rat} (so:ls.Pairwise (·<=·)) (pm:ls.Perm ((List.range cs.length).map (lv ws cs))):∀ x∈(0::ls).map (QQ ws cs),∃ B:Int,0 < B/\B<=10^6/\Dn B x:=by
 have gd:∀ (t:Rat) (B:Int),Dn B t->Dn B (QQ ws cs t):=fun t B hB=>by
  have all:∀ l:List Nat,Dn B (fY (dN (cR cs) (cR ws) t) l):=by
   intro l
   induction l with
   | nil=>exact Dn.zero B
   | cons i l ih=>
    rw [aX]
    refine Dn.add (Dn.mn ?_ (Dn.int _ _)) ih
    obtain ⟨k,hk⟩:=hB
    refine ⟨ws.getD i 0 * k,?_⟩
    rw [Rat.intCast_mul,<-hk]
    show cR ws i * t * _=cR ws i * _
    grind
  exact all _
 intro x hx
 obtain ⟨t,ht,rfl⟩:=List.mem_map.mp hx
 rcases List.mem_cons.mp ht with rfl | ht
 ·exact ⟨1,by decide,by decide,gd 0 1 (Dn.zero 1)⟩
 ·obtain ⟨i,hi,rfl⟩:=List.mem_map.mp (pm.mem_iff.mp ht)
  have hi':=List.mem_range.mp hi
  have w:=h.at hi'
  exact ⟨ws.getD i 0,by omega,w.2,gd _ _ (zKP h hc hi').2⟩
theorem zEY (w:Wy):aS.lookup w.s=some w.con.s:=by
 cases w
 ·exact zDN
 ·exact wC
 ·exact zCi
 ·exact uP
 ·exact zBS
 ·exact uN
theorem zFf (w:Wy):cX [.str w.s]=.ok (.v (.str w.con.s)):=by
 have e:rO aS (.str w.s)=.ok (.str w.con.s):=by show zJo (aS.lookup w.s)=_;rw [zEY];rfl
 unfold cX
 walk_at "ev"
 rw [qM (zEY w)]
 walk_at "ev"
 rw [e]
 walk_at "ev"
theorem uL:∀ {l:List Rat} {e x:Rat},l.Pairwise (·<=·)->l.getLast?=some e->x∈l->x<=e
 | [],_,_,_,h,_=>by cases h
 | [a],e,x,_,h,hx=>by rw [List.mem_singleton.mp hx];cases h;exact Rat.le_refl
 | a::b::r,e,x,hp,h,hx=>by
  obtain ⟨p1,p2⟩:=List.pairwise_cons.mp hp
  rw [List.getLast?_cons_cons] at h
  rcases List.mem_cons.mp hx with rfl | hx
  ·exact Rat.le_trans (p1 b List.mem_cons_self) (uL p2 h List.mem_cons_self)
  ·exact uL p2 h hx
theorem zIU {ws cs:List Int} (h:Wt ws cs) (hc:Cl cs) {ls:List Rat} (so:ls.Pairwise (·<=·)) (pm:ls.Perm ((List.range cs.length).map (lv ws cs))) (z0:QQ ws cs 0=0):JL .even ws cs ((0::ls).map (QQ ws cs)):=by
 have hm:∀ i,i < cs.length->lv ws cs i∈ls:=fun i hi=>pm.mem_iff.mpr (List.mem_map.mpr ⟨i,List.mem_range.mpr hi,rfl⟩)
 have h0:∀ x∈ls,0<=x:=fun x hx=>by
  obtain ⟨i,hi,rfl⟩:=List.mem_map.mp (pm.mem_iff.mp hx)
  exact zFw h hc (List.mem_range.mp hi)
 refine ⟨zIN h hc so hm h0,by rw [List.map_cons,z0];rfl,?_⟩
 rw [List.getLast?_map]
 obtain ⟨e,he⟩:∃ e,(0::ls).getLast?=some e:=⟨_,List.getLast?_eq_some_getLast (by simp)⟩
 rw [he]
 have so':(0::ls).Pairwise (·<=·):=List.pairwise_cons.mpr ⟨h0,so⟩
 refine congrArg some ?_
 unfold QQ
 rw [dM (g:=cR cs) fun i hi=>zDL h (List.mem_range.mp hi) (uL so' he (List.mem_cons_of_mem _ (hm i (List.mem_range.mp hi))))]
 exact oP cs
theorem zGR {w:Wy} {ws cs:List Int} (hw:w.due ws cs) (hc:Cl cs) {l:List Rat} (h:JL w ws cs l):JL w.con ws cs (l.reverse.map fun x=>(cs.sum:Rat) - x):=by
 refine ⟨zDB (fun a b k=>zGH hw hc k) h.cn,?_,?_⟩
 ·rw [List.head?_map,List.head?_reverse,h.la]
  show some ((cs.sum:Rat) - (cs.sum:Rat))=some 0
  rw [show (cs.sum:Rat) - (cs.sum:Rat)=0 by grind]
 ·rw [List.getLast?_map,List.getLast?_reverse,h.hd]
  show some ((cs.sum:Rat) - 0)=_
  rw [show (cs.sum:Rat) - 0=(cs.sum:Rat) by grind]
theorem zIa {cs:List Int} (hc:Cl cs) {l:List Rat} (h:JL .even (ones cs) cs l):JL .half [] cs (l.map (· * hf)++(l.map (· * hf)).reverse.map fun x=>(cs.sum:Rat) - x):=by
 have c1:Cn (Jt .half [] cs) (l.map (· * hf)):=zDq (fun a b k=>zII hc k) h.cn
 have c2:Cn (Jt .half [] cs) ((l.map (· * hf)).reverse.map fun x=>(cs.sum:Rat) - x):=zDB (fun a b k=>zGH (w:=.half) (ws:=[]) rfl hc k) c1
 have s0:(0:Rat)<=(cs.sum:Rat):=by exact_mod_cast hc.sum.1
 have hh:hf+hf=1:=by rw [oC];grind
 have h0:(0:Rat)<=hf:=by rw [oC];grind
 have m0:=Rat.mul_nonneg s0 h0
 refine ⟨zDc c1 c2 fun x y hx hy=>?_,?_,?_⟩
 ·rw [List.getLast?_map,h.la] at hx
  rw [List.head?_map,List.head?_reverse,List.getLast?_map,h.la] at hy
  cases hx
  cases hy
  have e:(cs.sum:Rat) - (cs.sum:Rat) * hf=(cs.sum:Rat) * hf:=by
   generalize (cs.sum:Rat)=S at *
   generalize hf=H at *
   grind
  show Jt .half [] cs ((cs.sum:Rat) * hf) ((cs.sum:Rat) - (cs.sum:Rat) * hf)
  rw [e]
  refine ⟨m0,Rat.le_refl,by grind,fun i hi x x1 x2=>?_⟩
  have:x=(cs.sum:Rat) * hf:=by grind
  subst this
  grind
 ·cases l with
  | nil=>cases h.hd
  | cons a l=>
   cases h.hd
   show some ((0:Rat) * hf)=some 0
   rw [Rat.zero_mul]
 ·have ne:((l.map (· * hf)).reverse.map fun x=>(cs.sum:Rat) - x).getLast?=some (cs.sum:Rat):=by
   rw [List.getLast?_map,List.getLast?_reverse,List.head?_map,h.hd]
   show some ((cs.sum:Rat) - 0 * hf)=_
   rw [show (cs.sum:Rat) - 0 * hf=(cs.sum:Rat) by grind]
  rw [List.getLast?_append,ne]
  rfl
theorem zHF {w:Wy} {ws cs:List Int} (hc:Cl cs) {l:List Rat} (h:JL w ws cs l) (h2:2<=l.length) (d:Jd cs l):∀ x∈l,Sz 300 x:=fun x hx=>by
 obtain ⟨b0,b1⟩:=zHM h.cn h2 x hx
 obtain ⟨B,B0,B1,dn⟩:=d.2 x hx
 exact zLT dn B0 (by omega) b0 b1 hc.sum.2
theorem zIc {w:Wy} {ws cs:List Int} {l:List Rat} (h:JL w ws cs l):∃ t,l=0::t:=by
 cases l with
 | nil=>cases h.hd
 | cons a t=>cases h.hd;exact ⟨t,rfl⟩
section
variable {n:Nat} {ws cs:List Int} {wd cd e:D}
theorem zKZ (sc:Sq cd cs) (hc:Cl cs):bD (n+1) [.str (Str.ofString "row"),e,cd]=.ok (.f ((rj cs 0).map dq)):=by
 show bT (bD n) _=_
 unfold bT
 walk_at "ev"
 rw [sc.sum]
 walk_at "ev"
 rw [bW]
 walk_at "ev"
 rw [yX sc hc]
 walk_at "ev"
theorem zGF (sw:Sq wd ws) (sc:Sq cd cs) (h:Wt ws cs) (hc:Cl cs):∃ ls:List Rat,bD (n+1) [.str (Str.ofString "even"),wd,cd]=.ok (.f (((0::ls).map (QQ ws cs)).map dq))/\ls.Pairwise (·<=·)/\ls.Perm ((List.range cs.length).map (lv ws cs))/\QQ ws cs 0=0:=by
 obtain ⟨ls,e1,e2,e3,e4⟩:=mP sw sc h hc
 refine ⟨ls,?_,e2,e3,e4⟩
 show bT (bD n) _=_
 unfold bT
 walk_at "ev"
 rw [sc.sum]
 walk_at "ev"
 rw [bW]
 walk_at "ev"
 rw [zMM]
 walk_at "ev"
 rw [e1]
 walk_at "ev"
theorem zKq (sc:Sq cd cs):bD (n+1) [.str (Str.ofString "part"),e,cd]=.ok (.f ([0,(cs.sum:Rat)].map dq)):=by
 show bT (bD n) _=_
 unfold bT
 walk_at "ev"
 rw [sc.sum]
 walk_at "ev"
 rw [bW]
 walk_at "ev"
 rw [zNa]
 walk_at "ev"
 rw [zMK]
 walk_at "ev"
theorem zLi (sc:Sq cd cs) (hc:Cl cs):∃ ls:List Rat,bD (n+1) [.str (Str.ofString "half"),e,cd]=.ok (.f ((((0::ls).map (QQ (ones cs) cs)).map (· * hf)++(((0::ls).map (QQ (ones cs) cs)).map (· * hf)).reverse.map fun x=>(cs.sum:Rat) - x).map dq))/\ls.Pairwise (·<=·)/\ls.Perm ((List.range cs.length).map (lv (ones cs) cs))/\QQ (ones cs) cs 0=0:=by
 obtain ⟨ls,e1,e2,e3,e4⟩:=mP (wd:=.lst ((ones cs).map D.int)) (.inl rfl) sc (gK cs) hc
 have hi:=hc.hi
 have sm:=hc.sum
 have W:=gK cs
 have jl:=zIU W hc e2 e3 e4
 have ll:((0::ls).map (QQ (ones cs) cs)).length=cs.length+1:=by rw [List.length_map,List.length_cons,e3.length_eq,List.length_map,List.length_range]
 have bd:=zHM jl.cn (by rw [ll];have:=hc.lo;omega)
 have dn:=zHu W hc e2 e3
 refine ⟨ls,?_,e2,e3,e4⟩
 generalize (0::ls).map (QQ (ones cs) cs)=l at *
 have zl:∀ x∈l,Sz 134 x:=fun x hx=>by
  obtain ⟨B,B0,B1,d⟩:=dn x hx
  exact d.sz (a:=104) (b:=30) B0 (by omega) (bd x hx).1 (bd x hx).2 sm.2
 have eo:(ones cs).map D.int=List.replicate cs.length (.int 1):=by unfold ones;rw [List.map_replicate]
 rw [eo] at e1
 have hh:=zJw
 unfold d_HALF at hh
 show bT (bD n) _=_
 unfold bT
 walk_at "ev"
 rw [sc.sum]
 walk_at "ev"
 rw [bW]
 walk_at "ev"
 rw [zMq]
 walk_at "ev"
 rw [zMo]
 walk_at "ev"
 rw [zLK]
 walk_at "ev"
 rw [sc.len]
 walk_at "ev"
 rw [zBT (by omega)]
 walk_at "ev"
 rw [e1]
 walk_at "ev"
 rw [jD (u:=dq) (g:=fun x=>dq (x * hf)) (by omega) (fun x hx=>by
  walk_at "ev"
  rw [hh,lC (zl x hx) zDr (by decide)]
  walk_at "ev")]
 walk_at "ev"
 have lm:l.map (fun x=>dq (x * hf))=(l.map (· * hf)).map dq:=by rw [List.map_map];rfl
 rw [lm,nO (S:=cs.sum) (by rw [List.length_map];omega) (fun x hx=>by
  obtain ⟨y,hy,rfl⟩:=List.mem_map.mp hx
  exact ((zl y hy).mul zDr).mono (by decide)) (by omega)]
 walk_at "ev"
 rw [if_pos (by simp only [List.length_reverse,List.length_map];omega),List.map_append]
 walk_at "ev"
end
def SzQ (a b:Nat) (p:Pt):Prop:=Sz a p.1/\Sz b p.2
theorem zAa {a b c:Pt} {n m:Nat} (ha:SzQ n m a) (hb:SzQ n m b) (hc:SzQ n m c) (h:2 * n+2 * m+2<=8999):fM [dp a,dp b,dp c]=.ok (.v (.bl (btw a b c))):=by
 unfold fM
 walk_at "ev"
 rw [fB hb.2 ha.2 (by omega)]
 walk_at "ev"
 rw [fB hc.2 hb.2 (by omega)]
 walk_at "ev"
 rw [fB hb.1 ha.1 (by omega)]
 walk_at "ev"
 rw [fB hc.1 hb.1 (by omega)]
 walk_at "ev"
 rw [lC (hb.2.sub ha.2) (hc.1.sub hb.1) (by omega)]
 walk_at "ev"
 rw [lC (hc.2.sub hb.2) (hb.1.sub ha.1) (by omega)]
 walk_at "ev"
 rfl
theorem yD {d:D} {ps:List Pt} {n m:Nat} (hd:d=.lst (ps.map dp)∨d=.tup (ps.map dp)) (hl:ps.length<=100000) (hs:∀ p∈ps,SzQ n m p) (hn:2 * n+2 * m+2<=8999) (hk:Ok ps):fH [d]=.ok (.v .non):=by
 obtain ⟨hh,hp⟩:=hk
 have ln:kZ [d]=.ok (.int (ps.length:Int)):=by rcases hd with rfl | rfl<;>simp [bLen_l,bLen_t]
 have ix:∀ (i:Int) (k:Nat) (a:Pt),i=(k:Int)->ps[k]?=some a->oIx d (.int i)=.ok (dp a):=by
  intro i k a hi ha
  subst hi
  rcases hd with rfl | rfl
  ·exact rD (by omega) (by simpa using ha)
  ·exact wA (by omega) (by simpa using ha)
 clear hd
 have hpos:0 < ps.length:=by cases ps with
  | nil=>cases hh
  | cons a r=>exact Nat.succ_pos _
 have h0:ps[0]?=some (0,0):=by rw [<-List.head?_eq_getElem?];exact hh
 unfold fH
 walk_at "ev"
 rw [ln]
 walk_at "ev"
 rw [decide_eq_false (by omega)]
 walk_at "ev"
 rw [ix 0 0 _ rfl h0]
 walk_at "ev"
 rw [ln]
 walk_at "ev"
 rw [zAm (by omega) (by omega) (by omega) (by omega)]
 walk_at "ev"
 refine lG (Q:=fun r=>r=Res.ok (Rt.v D.non)) (fun i ρ=>∃ a b c,ρ=[.val d,a,b,c]) ⟨_,_,_,rfl⟩ ?_ ?_
 ·rintro i e ρ hd ⟨a,b,c,rfl⟩
  obtain ⟨hi,rfl⟩:=zEh hd
  have h1:ps[i]?=some ps[i]:=List.getElem?_eq_getElem _
  have h2:ps[i+1]?=some ps[i+1]:=List.getElem?_eq_getElem _
  have z1:=hs _ (List.mem_of_getElem? h1)
  have z2:=hs _ (List.mem_of_getElem? h2)
  have za:=qG hp (Nat.lt_succ_self i) h1 h2
  generalize ps[i]=u at h1 z1 za
  generalize ps[i+1]=v at h2 z2 za
  walk_at "ev"
  rw [ix _ i _ (by omega) h1]
  walk_at "ev"
  rw [ix _ (i+1) _ (by omega) h2]
  walk_at "ev"
  rw [qD z1.1 z2.1 (by omega)]
  walk_at "ev"
  rw [decide_eq_true za.1]
  walk_at "ev"
  rw [qD z2.2 z1.2 (by omega)]
  walk_at "ev"
  rw [decide_eq_false (by rw [Rat.not_lt];exact za.2)]
  walk_at "ev"
  exact ⟨_,rfl,_,_,_,rfl⟩
 ·rintro ρ' ⟨a,b,c,rfl⟩
  rfl
theorem zEM {d:D} {ps:List Pt} {n m:Nat} (hd:d=.lst (ps.map dp)∨d=.tup (ps.map dp)) (hl:ps.length<=100000) (hs:∀ p∈ps,SzQ n m p) (hn:2 * n+2 * m+2<=8999) (hk:Ok ps):kD [d]=.ok (.v (.tup ((kX ps).map dp))):=by
 have sq:zHh d=.ok (ps.map dp):=by rcases hd with rfl | rfl<;>rfl
 unfold kD
 walk_at "ev"
 rw [yD hd hl hs hn hk]
 walk_at "ev"
 rw [sq]
 walk_at "ev"
 refine lG (Q:=fun r=>r.bind fin=.ok (.v (.tup ((kX ps).map dp)))) (fun i ρ=>∃ a,ρ=[.val d,.own (((ps.take i).foldl push []).reverse.map dp),a]/\(∀ p∈(ps.take i).foldl push [],SzQ n m p)/\((ps.take i).foldl push []).length<=i) ⟨_,rfl,fun p hp=>by (rw [List.take_zero] at hp;cases hp),by rw [List.take_zero];exact Nat.le_refl _⟩ ?_ ?_
 ·rintro i e ρ hd ⟨a,rfl,hz,hlen⟩
  rw [List.getElem?_map] at hd
  cases hq:ps[i]? with
  | none=>rw [hq] at hd;cases hd
  | some p=>
   rw [hq] at hd
   cases hd
   have hi:i < ps.length:=(List.getElem?_eq_some_iff.mp hq).1
   have zp:=hs _ (List.mem_of_getElem? hq)
   rw [zCB hq,List.foldl_append,List.foldl_cons,List.foldl_nil]
   generalize (ps.take i).foldl push []=s at hz hlen
   generalize hK:(qZ:Sv)=K
   walk_at "ev"
   by_cases hc:1 < s.length
   case neg=>
    rw [List.length_reverse,decide_eq_false (by omega)]
    subst hK
    walk_at "ev"
    rw [if_pos (by rw [List.length_reverse];omega),zCr hc]
    exact ⟨_,rfl,.val (dp p),by simp,by intro q hq;rcases List.mem_cons.mp hq with rfl | hq;exact zp;exact hz q hq,by simp;omega⟩
   match s,hz,hlen,hc with
   | [],_,_,hc=>exact absurd hc (by decide)
   | [b],_,_,hc=>exact absurd hc (by simp)
   | b::a::s,hz,hlen,_=>
    have za:=hz a (List.mem_cons_of_mem _ List.mem_cons_self)
    have zb:=hz b List.mem_cons_self
    have zs:∀ q∈s,SzQ n m q:=fun q hq=>hz q (List.mem_cons_of_mem _ (List.mem_cons_of_mem _ hq))
    have e1:((b::a::s).reverse)[(b::a::s).reverse.length - 1]?=some b:=by simp
    have e2:((b::a::s).reverse)[(b::a::s).reverse.length - 2]?=some a:=by simp
    rw [List.length_cons,List.length_cons] at hlen
    have hll:(b::a::s).reverse.length=s.length+2:=by simp
    rw [hll]
    rw [decide_eq_true (by omega)]
    walk_at "ev"
    rw [uX (i:=-2) (k:=2) rfl (by decide) (by rw [hll];omega) e2]
    walk_at "ev"
    rw [uX (i:=-1) (k:=1) rfl (by decide) (by rw [hll];omega) e1]
    walk_at "ev"
    rw [zAa za zb zp hn]
    walk_at "ev"
    cases hb:btw a b p with
    | false=>
     subst hK
     walk_at "ev"
     rw [hll,if_pos (by omega)]
     refine ⟨_,rfl,.val (dp p),?_,?_,?_⟩
     ·rw [push,hb]
      simp
     ·rw [push,hb]
      intro q hq
      rcases List.mem_cons.mp hq with rfl | hq
      ·exact zp
      ·exact hz q hq
     ·rw [push,hb]
      simp;omega
    | true=>
     subst hK
     walk_at "ev"
     rw [hll,if_neg (by omega)]
     walk_at "ev"
     rw [if_pos (by simp;omega)]
     refine ⟨_,rfl,.val (dp p),?_,?_,?_⟩
     ·rw [push,hb]
      simp
     ·rw [push,hb]
      intro q hq
      rcases List.mem_cons.mp hq with rfl | hq
      ·exact zp
      ·exact hz q (List.mem_cons_of_mem _ hq)
     ·rw [push,hb]
      simp;omega
 ·rintro ρ' ⟨a,rfl,_,_⟩
  rw [List.length_map,List.take_length]
  walk_at "ev"
  rfl
theorem zKl {w:Wy} {ws cs:List Int} {wd cd:D} {l:List Rat} (hw:w=.back∨w=.lack) (sc:Sq cd cs) (hc:Cl cs) (hl:l.length<=30) (hz:∀ x∈l,Sz 300 x) (e:bD 1 [.str w.con.s,wd,cd]=.ok (.f (l.map dq))):bD 2 [.str w.s,wd,cd]=.ok (.f ((l.reverse.map fun x=>(cs.sum:Rat) - x).map dq)):=by
 have sm:=hc.sum
 have c:=zFf w
 show bT (bD 1) _=_
 unfold bT
 walk_at "ev"
 rw [sc.sum]
 walk_at "ev"
 rw [bW]
 walk_at "ev"
 rcases hw with rfl | rfl
 ·rw [show Wy.back.s=Str.ofString "back" from rfl,zMB]
  walk_at "ev"
  rw [zMS]
  walk_at "ev"
  rw [zMJ]
  walk_at "ev"
  rw [zMU]
  walk_at "ev"
  rw [show Str.ofString "back" = Wy.back.s from rfl,c]
  walk_at "ev"
  rw [e]
  walk_at "ev"
  rw [nO (by omega) hz (by omega)]
  walk_at "ev"
 ·rw [show Wy.lack.s=Str.ofString "lack" from rfl,zMZ]
  walk_at "ev"
  rw [zML]
  walk_at "ev"
  rw [zMC]
  walk_at "ev"
  rw [zMF]
  walk_at "ev"
  rw [show Str.ofString "lack" = Wy.lack.s from rfl,c]
  walk_at "ev"
  rw [e]
  walk_at "ev"
  rw [nO (by omega) hz (by omega)]
  walk_at "ev"
theorem zGD {cs:List Int} {l:List Rat} (h:Jd cs l):Jd cs (l.reverse.map fun x=>(cs.sum:Rat) - x):=by
 refine ⟨by rw [List.length_map,List.length_reverse];exact h.1,fun x hx=>?_⟩
 obtain ⟨y,hy,rfl⟩:=List.mem_map.mp hx
 obtain ⟨B,b0,b1,d⟩:=h.2 y (List.mem_reverse.mp hy)
 exact ⟨B,b0,b1,(Dn.int B cs.sum).sub d⟩
theorem zGc {w:Wy} {ws cs:List Int} {wd cd:D} (sw:Sq wd ws) (sc:Sq cd cs) (hw:w.due ws cs) (hc:Cl cs):∃ l:List Rat,bD 2 [.str w.s,wd,cd]=.ok (.f (l.map dq))/\JL w ws cs l/\Jd cs l/\2<=l.length:=by
 have hi:=hc.hi
 have lo:=hc.lo
 have row:JL .row [] cs (rj cs 0)/\Jd cs (rj cs 0)/\2<=(rj cs 0).length:=by
  obtain ⟨l1,l2⟩:=zHp cs 0
  refine ⟨⟨zKh hc,?_,by rw [l2,Int.zero_add]⟩,⟨by omega,fun x hx=>?_⟩,by omega⟩
  ·obtain ⟨t,et⟩:=zAu cs 0
   rw [et];rfl
  ·obtain ⟨k,rfl⟩:=zGY cs 0 x hx
   exact ⟨1,by decide,by decide,Dn.int 1 k⟩
 have evn:∀ ls:List Rat,Wt ws cs->ls.Pairwise (·<=·)->ls.Perm ((List.range cs.length).map (lv ws cs))->QQ ws cs 0=0->JL .even ws cs ((0::ls).map (QQ ws cs))/\Jd cs ((0::ls).map (QQ ws cs))/\2<=((0::ls).map (QQ ws cs)).length:=fun ls W e2 e3 e4=>by
  have ll:((0::ls).map (QQ ws cs)).length=cs.length+1:=by rw [List.length_map,List.length_cons,e3.length_eq,List.length_map,List.length_range]
  refine ⟨zIU W hc e2 e3 e4,⟨by omega,fun x hx=>?_⟩,by omega⟩
  obtain ⟨B,b0,b1,d⟩:=zHu W hc e2 e3 x hx
  exact ⟨B,b0,by omega,d⟩
 cases w with
 | row=>
  have e:ws=[]:=hw
  subst e
  exact ⟨_,zKZ (n:=1) (e:=wd) sc hc,row⟩
 | part=>
  have e:ws=[]:=hw
  subst e
  refine ⟨_,zKq (n:=1) (e:=wd) sc,⟨zFh hc,rfl,rfl⟩,⟨by show 2<=30;decide,fun x hx=>?_⟩,Nat.le_refl 2⟩
  rcases List.mem_cons.mp hx with rfl | hx
  ·exact ⟨1,by decide,by decide,Dn.zero 1⟩
  ·rw [List.mem_singleton.mp hx];exact ⟨1,by decide,by decide,Dn.int 1 _⟩
 | even=>
  obtain ⟨ls,e1,e2,e3,e4⟩:=zGF (n:=1) sw sc hw hc
  exact ⟨_,e1,evn ls hw e2 e3 e4⟩
 | back=>
  have e:ws=[]:=hw
  subst e
  have k:=zKl (w:=.back) (ws:=[]) (.inl rfl) sc hc row.2.1.1 (zHF hc row.1 row.2.2 row.2.1) (zKZ (n:=0) (e:=wd) sc hc)
  exact ⟨_,k,zGR (w:=.row) rfl hc row.1,zGD row.2.1,by rw [List.length_map,List.length_reverse];exact row.2.2⟩
 | lack=>
  obtain ⟨ls,e1,e2,e3,e4⟩:=zGF (n:=0) sw sc hw hc
  obtain ⟨r1,r2,r3⟩:=evn ls hw e2 e3 e4
  have k:=zKl (w:=.lack) (ws:=ws) (.inr rfl) sc hc r2.1 (zHF hc r1 r3 r2) e1
  exact ⟨_,k,zGR (w:=.even) hw hc r1,zGD r2,by rw [List.length_map,List.length_reverse];exact r3⟩
 | half=>
  have e:ws=[]:=hw
  subst e
  obtain ⟨ls,e1,e2,e3,e4⟩:=zLi (n:=1) (e:=wd) sc hc
  have W:=gK cs
  have ll:((0::ls).map (QQ (ones cs) cs)).length=cs.length+1:=by rw [List.length_map,List.length_cons,e3.length_eq,List.length_map,List.length_range]
  have jl:=zIU W hc e2 e3 e4
  have dn:=zHu W hc e2 e3
  generalize (0::ls).map (QQ (ones cs) cs)=l at *
  refine ⟨_,e1,zIa hc jl,⟨?_,fun x hx=>?_⟩,?_⟩
  ·simp only [List.length_append,List.length_map,List.length_reverse];omega
  ·have early:∀ y∈l.map (· * hf),∃ B:Int,0 < B/\B<=2 * 10^6/\Dn B y:=fun y hy=>by
    obtain ⟨z,hz,rfl⟩:=List.mem_map.mp hy
    obtain ⟨B,b0,b1,d⟩:=dn z hz
    exact ⟨B * 2,by omega,by omega,zLN d⟩
   rcases List.mem_append.mp hx with hx | hx
   ·exact early x hx
   ·obtain ⟨y,hy,rfl⟩:=List.mem_map.mp hx
    obtain ⟨B,b0,b1,d⟩:=early y (List.mem_reverse.mp hy)
    exact ⟨B,b0,b1,(Dn.int B cs.sum).sub d⟩
  ·simp only [List.length_append,List.length_map,List.length_reverse];omega
theorem vC {α:Type}:∀ l:List α,l.zip l=l.map fun x=>(x,x)
 | []=>rfl
 | a::l=>by rw [List.zip_cons_cons,vC l,List.map_cons]
theorem jC {w:Wy} {ws cs:List Int} {wd cd:D} (sw:Sq wd ws) (sc:Sq cd cs) (hw:w.due ws cs) (hc:Cl cs):∃ J:List Rat,bR [.str w.s,wd,cd]=.ok (.f ((List.range cs.length).map fun i=>.tup ((wln w ws cs J i).map dp)))/\JS w ws cs J/\J.length<=30/\∀ x∈J,Sz 300 x/\∀ i,i < cs.length->Sz 670 (FF w ws cs x i):=by
 obtain ⟨l,e1,jl,jd,l2⟩:=zGc sw sc hw hc
 have zl:=zHF hc jl l2 jd
 obtain ⟨t,rfl⟩:=zIc jl
 have js:=jl.js
 have hi:=hc.hi
 have lt:=jd.1
 rw [List.length_cons] at lt
 have e2:=nX (l:=t) (by omega) zl
 have sub:=zDn t 0
 have ln:(0::ddR 0 t).length<=30:=by rw [List.length_cons];have:=sub.length_le;omega
 have zj:∀ x∈0::ddR 0 t,Sz 300 x:=fun x hx=>zl x (by
  rcases List.mem_cons.mp hx with rfl | hx
  ·exact List.mem_cons_self
  ·exact List.mem_cons_of_mem _ (sub.subset hx))
 generalize 0::ddR 0 t=J at *
 have bd:=js.bd
 have rd:∀ q∈J,aN 2 [.str w.s,wd,cd,dq q]=.ok (.f (((List.range cs.length).map (FF w ws cs q)).map dq))/\∀ i,i < cs.length->Sz 670 (FF w ws cs q i):=fun q hq=>by
  have ha:Haul 300 q cs.sum:=⟨(bd q hq).1,(bd q hq).2,zj q hq⟩
  obtain ⟨f,ef,af⟩:=zEm sw sc (by decide) hw hc ha
  have df:=zJB hw hc ha af
  have eq:∀ i,i < cs.length->f i=FF w ws cs q i:=fun i hi=>zCD hw hc (bd q hq).1 (bd q hq).2 af hi
  refine ⟨by rw [ef,List.map_congr_left (g:=FF w ws cs q) fun i hi=>eq i (List.mem_range.mp hi)],fun i hi=>by rw [<-eq i hi];exact (df.bd i hi).2.2⟩
 refine ⟨J,?_,js,ln,fun x hx=>⟨zj x hx,(rd x hx).2⟩⟩
 unfold bR
 walk_at "ev"
 rw [zFL sw sc hw hc]
 walk_at "ev"
 rw [e1]
 walk_at "ev"
 rw [List.map_cons] at e2
 rw [e2]
 walk_at "ev"
 rw [jD (u:=dq) (g:=fun q=>D.lst (((List.range cs.length).map (FF w ws cs q)).map dq)) (by omega) (fun q hq=>by
  walk_at "ev"
  rw [(rd q hq).1]
  walk_at "ev")]
 walk_at "ev"
 rw [sc.len]
 walk_at "ev"
 rw [zHV (by omega) (by omega)]
 walk_at "ev"
 rw [show rng 0 ((cs.length:Int)).toNat 1=(List.range cs.length).map fun j:Nat=>D.int (j:Int) by unfold rng;rw [Int.toNat_natCast];exact List.map_congr_left fun j _=>by rw [show (0:Int)+(j:Int) * 1=(j:Int) by omega]]
 rw [jD (u:=fun j:Nat=>D.int (j:Int)) (g:=fun i=>D.tup ((wln w ws cs J i).map dp)) (by rw [List.length_range];omega) (fun i hi=>by
  have hi':=List.mem_range.mp hi
  have fl:jR [.lst (J.map dq),.lst (J.map fun q=>D.lst (((List.range cs.length).map (FF w ws cs q)).map dq)),.int (i:Int)]=.ok (.v (.tup ((wln w ws cs J i).map dp))):=by
   obtain ⟨ok,la⟩:=zCg hw hc js hi'
   unfold jR
   walk_at "ev"
   rw [oE rfl rfl]
   walk_at "ev"
   rw [iI (u:=dq) (v:=fun q=>D.lst (((List.range cs.length).map (FF w ws cs q)).map dq)) (g:=fun x y=>dp (x,FF w ws cs y i)) (by omega) (fun p hp=>by
    have e:oIx (.lst (((List.range cs.length).map (FF w ws cs p.2)).map dq)) (.int (i:Int))=.ok (dq (FF w ws cs p.2 i)):=by
     rw [List.map_map]
     exact rD (Int.natCast_nonneg i) (show (List.range cs.length)[i]?=some i from List.getElem?_range hi')
    walk_at "ev"
    rw [e]
    walk_at "ev")]
   walk_at "ev"
   rw [vC,List.map_map,show (J.map ((fun p:Rat×Rat=>dp (p.1,FF w ws cs p.2 i)) ∘ fun x=>(x,x)))=(jpt w ws cs J i).map dp by unfold jpt;rw [List.map_map];rfl]
   rw [zEM (n:=300) (m:=670) (.inl rfl) (by unfold jpt;rw [List.length_map];omega) (fun p hp=>by
    unfold jpt at hp
    obtain ⟨q,hq,rfl⟩:=List.mem_map.mp hp
    exact ⟨zj q hq,(rd q hq).2 i hi'⟩) (by decide) ok]
   walk_at "ev"
   rfl
  walk_at "ev"
  rw [fl]
  walk_at "ev")]
 walk_at "ev"
theorem nM {t b:Int} {n:Nat} (hb0:b≠0) (hn:b.natAbs < 2^n) (h:n<=8999):dL [.int t,.int b]=.ok (.v (dq (Rat.divInt t b))):=by
 have hd:jP (dv t b)=true:=pL (zKz hb0) (Nat.lt_of_le_of_lt (zJu hb0) hn) h
 unfold dL
 walk_at "ev"
 refine zHe (fun ρ=>∃ (x y:Int) (r:Sl),ρ=[.val (.int t),.val (.int b),.val (.int x),.val (.int y),r]/\0<=x/\0<=y/\Int.gcd x y=Int.gcd t b) (fun ρ=>(slI 3 ρ).toNat)
  (fun r=>(r.bind (zHd oQ)).bind fin=.ok (.v (dq (Rat.divInt t b)))) ⟨_,_,_,rfl,by omega,by omega,by simp [Int.gcd]⟩ ?_
 rintro ρ ⟨x,y,r,rfl,hx,hy,hg⟩
 by_cases c:y=0
 ·subst c
  have e2:x=(Int.gcd t b:Int):=by
   rw [Int.gcd_zero_right] at hg
   omega
  subst e2
  refine .inl ⟨rfl,?_⟩
  walk_at "ev"
  by_cases c:b < 0
  ·have e:0 - (Int.gcd t b:Int)=dv t b:=by unfold dv;rw [if_pos c];omega
   rw [decide_eq_true c]
   walk_at "ev"
   rw [e,oDiv_i hd]
   walk_at "ev"
   rw [oDiv_i hd]
   walk_at "ev"
   rw [uC hb0,tY hb0]
   rfl
  ·have e:(Int.gcd t b:Int)=dv t b:=by unfold dv;rw [if_neg c]
   rw [decide_eq_false c]
   walk_at "ev"
   rw [e,oDiv_i hd]
   walk_at "ev"
   rw [oDiv_i hd]
   walk_at "ev"
   rw [uC hb0,tY hb0]
   rfl
 ·have hp:0 < y:=by omega
  refine .inr ⟨?_,[.val (.int t),.val (.int b),.val (.int y),.val (.int (x % y)),.val (.int (x % y))],?_,⟨y,x % y,_,rfl,hy,Int.emod_nonneg _ c,(zBR hx hp).trans hg⟩,?_⟩
  ·walk_at "ev"
   rw [decide_eq_true hp]
  ·walk_at "ev"
   rw [oMod_i c,fmod_pos _ hp]
   walk_at "ev"
  ·have:=Int.emod_lt_of_pos x hp
   show (x % y).toNat < y.toNat
   omega
theorem iZ {p q:Rat} {m n:Nat} (hp:Sz m p) (hq:Sz n q) (h:m+n<=8999):dB [dq p,dq q]=.ok (.v (dq (p - q))):=by
 unfold dB
 walk_at "ev"
 rw [oMul_i (bN hp.1 hq.d (by omega))]
 walk_at "ev"
 rw [oMul_i (bN hq.1 hp.d (by omega))]
 walk_at "ev"
 rw [oMul_i (bN hp.d hq.d (by omega))]
 walk_at "ev"
 rw [nM (Int.mul_ne_zero (dA p) (dA q)) (eA hp.d hq.d) h,zEB]
 walk_at "ev"
theorem qA {p q:Rat} {m n:Nat} (hp:Sz m p) (hq:Sz n q) (h:m+n<=8999):eZ [dq p,dq q]=.ok (.v (dq (p * q))):=by
 unfold eZ
 walk_at "ev"
 rw [oMul_i (bN hp.1 hq.1 (by omega))]
 walk_at "ev"
 rw [oMul_i (bN hp.d hq.d (by omega))]
 walk_at "ev"
 rw [nM (Int.mul_ne_zero (dA p) (dA q)) (eA hp.d hq.d) h,zDs]
 walk_at "ev"
theorem tX {p q:Rat} {m n:Nat} (hp:Sz m p) (hq:Sz n q) (h:m+n<=99999):gA [dq p,dq q]=.ok (.v (.bl (decide (p < q)))):=by
 unfold gA
 walk_at "ev"
 rw [oMul_i (bN hp.1 hq.d (by omega))]
 walk_at "ev"
 rw [oMul_i (bN hq.1 hp.d (by omega))]
 walk_at "ev"
 simp only [lt_iff]
theorem iN {q:Rat} {n:Nat} (hq:Sz n q) (h:n<=8999):cB [dq q]=.ok (.v (.bl true)):=by
 unfold cB
 walk_at "ev"
 show ((((Res.ok [D.int q.num,D.int (q.den:Int)]).bind _).bind _).bind _)=_
 walk_at "ev"
 refine wF (Q:=fun r=>r.bind fin=.ok (.v (.bl true))) (fun ρ=>∃ a,ρ=[.val (dq q),a]) ⟨_,rfl⟩ ?_ ?_
 ·rintro d ρ hd ⟨a,rfl⟩
  have hi:∃ i,d=.int i:=by
   rcases List.mem_cons.mp hd with rfl | hd
   ·exact ⟨_,rfl⟩
   ·rcases List.mem_cons.mp hd with rfl | hd
    ·exact ⟨_,rfl⟩
    ·cases hd
  obtain ⟨i,rfl⟩:=hi
  walk_at "ev"
  exact ⟨_,rfl,_,rfl⟩
 ·rintro ρ' ⟨a,rfl⟩
  walk_at "ev"
  rw [decide_eq_true (iF q)]
  walk_at "ev"
  rw [nM (dA q) hq.d h,Rat.num_divInt_den]
  walk_at "ev"
theorem oO {ps:List Pt} (h0:0 < ps.length) {n:Nat} (hl:ps.length<=100000) (hs:∀ p∈ps,SzP n p) (hn:n<=2000) (v:D) (hv:v=.lst (ps.map dp)∨v=.tup (ps.map dp)):dF [v]=.ok (.v (.tup ((dZ ps).map dp))):=by
 have f0:ps[0]?=some ps[0]:=List.getElem?_eq_getElem _
 have ln:kZ [v]=.ok (.int (ps.length:Int)):=by rcases hv with rfl | rfl<;>simp [bLen_l,bLen_t]
 have ix:∀ (j:Int) (k:Nat) (a:Pt),j=(k:Int)->ps[k]?=some a->oIx v (.int j)=.ok (dp a):=by
  intro j k a hj ha
  subst hj
  rcases hv with rfl | rfl
  ·exact rD (by omega) (by simpa using ha)
  ·exact wA (by omega) (by simpa using ha)
 clear hv
 unfold dF
 walk_at "ev"
 rw [ix 0 0 _ rfl f0]
 walk_at "ev"
 rw [ln]
 walk_at "ev"
 rw [zAm (by omega) (by omega) (by omega) (by omega)]
 walk_at "ev"
 refine lG (Q:=fun r=>r.bind fin=.ok (.v (.tup ((dZ ps).map dp))))
  (fun i ρ=>∃ (t:List Pt) (p:Pt) (a b c d e f:Sl),ρ=[.val v,.own (t.map dp),a,b,c,d,e,f]/\ps[i]?=some p/\t++few p (ps.drop (i+1))=dZ ps/\t.length<=i+1)
  ⟨[ps[0]],ps[0],_,_,_,_,_,_,rfl,f0,?_,Nat.le_refl _⟩ ?_ ?_
 ·cases ps with
  | nil=>cases f0
  | cons a r=>rfl
 ·rintro i d ρ hd ⟨t,p,a,b,c,d2,e,f,rfl,hp,ht,hlen⟩
  obtain ⟨hi,rfl⟩:=zEh hd
  have h1:ps[i+1]?=some ps[i+1]:=List.getElem?_eq_getElem _
  have z0:=hs _ (List.mem_of_getElem? hp)
  have z1:=hs _ (List.mem_of_getElem? h1)
  rw [List.drop_eq_getElem_cons (show i+1 < ps.length by omega)] at ht
  generalize ps[i+1]=q at h1 z1 ht
  have rest:∀ (s:Bool) (b c d e:Sl),(∀ t',t'=(if s=true then t else t++[q])->t'++few q (ps.drop (i+1+1))=dZ ps)->∃ ρ2,eK [.val v,.own (t.map dp),.val (.int (1+(i:Int) * 1)),.val (.bl s),b,c,d,e]=.ok (.nx ρ2)/\
    ∃ (t:List Pt) (p:Pt) (a b c d e f:Sl),ρ2=[.val v,.own (t.map dp),a,b,c,d,e,f]/\ps[i+1]?=some p/\t++few p (ps.drop (i+1+1))=dZ ps/\t.length<=i+1+1:=by
   intro s b c d e hh
   cases s with
   | true=>
    walk_at "ev"
    exact ⟨_,rfl,t,q,_,_,_,_,_,_,rfl,h1,hh _ rfl,by omega⟩
   | false=>
    walk_at "ev"
    rw [ix _ (i+1) _ (by omega) h1]
    walk_at "ev"
    rw [if_pos (by omega)]
    exact ⟨_,rfl,t++[q],q,_,_,_,_,_,_,by rw [List.map_append];rfl,h1,hh _ rfl,by simp;omega⟩
  generalize hK:(eK:Sv)=K at rest
  walk_at "ev"
  rw [ln]
  walk_at "ev"
  subst hK
  generalize hK:(eK:Sv)=K at rest ⊢
  by_cases c1:1+(i:Int) * 1+1 < (ps.length:Int)
  ·have h2:ps[i+2]?=some ps[i+2]:=List.getElem?_eq_getElem _
   have z2:=hs _ (List.mem_of_getElem? h2)
   rw [List.drop_eq_getElem_cons (show i+1+1 < ps.length by omega)] at ht
   have hdr:=List.drop_eq_getElem_cons (show i+1+1 < ps.length by omega)
   generalize ps[i+2]=r at h2 z2 ht hdr
   rw [decide_eq_true c1]
   walk_at "ev"
   rw [ix _ (i+1) _ (by omega) h1]
   walk_at "ev"
   rw [ix _ i _ (by omega) hp]
   walk_at "ev"
   rw [iZ z1.1 z0.1 (by omega)]
   walk_at "ev"
   rw [ix _ (i+1) _ (by omega) h1]
   walk_at "ev"
   rw [ix _ i _ (by omega) hp]
   walk_at "ev"
   rw [iZ z1.2 z0.2 (by omega)]
   walk_at "ev"
   rw [ix _ (i+2) _ (by omega) h2]
   walk_at "ev"
   rw [ix _ (i+1) _ (by omega) h1]
   walk_at "ev"
   rw [iZ z2.1 z1.1 (by omega)]
   walk_at "ev"
   rw [ix _ (i+2) _ (by omega) h2]
   walk_at "ev"
   rw [ix _ (i+1) _ (by omega) h1]
   walk_at "ev"
   rw [iZ z2.2 z1.2 (by omega)]
   walk_at "ev"
   rw [qA (z1.2.sub z0.2) (z2.1.sub z1.1) (by omega)]
   walk_at "ev"
   rw [qA (z2.2.sub z1.2) (z1.1.sub z0.1) (by omega)]
   walk_at "ev"
   refine rest _ _ _ _ _ ?_
   rintro t' rfl
   rw [hdr]
   rw [few] at ht
   unfold btw at ht
   by_cases c2:decide ((q.2 - p.2) * (r.1 - q.1)=(r.2 - q.2) * (q.1 - p.1))=true
   ·rw [if_pos c2] at ht ⊢
    exact ht
   ·rw [if_neg c2] at ht ⊢
    rw [List.append_assoc]
    exact ht
  ·rw [decide_eq_false c1]
   walk_at "ev"
   refine rest _ _ _ _ _ ?_
   rintro t' rfl
   rw [List.drop_eq_nil_of_le (by omega)] at ht ⊢
   rw [few,List.append_nil]
   exact ht
 ·rintro ρ' ⟨t,p,a,b,c,d2,e,f,rfl,hp,ht,hlen⟩
  rw [zJQ] at ht
  rw [List.drop_eq_nil_of_le (by omega),few,List.append_nil] at ht
  walk_at "ev"
  rw [ht]
theorem zCx {ps:List Pt} {n:Nat} (h:zJl ps) (hl:ps.length<=100000) (hs:∀ p∈ps,SzP n p) (hn:n<=2000):iK [.tup (ps.map dp)]=.ok (.v (.bl true)):=by
 have hpos:0 < ps.length:=by
  have:=h.1.1
  cases ps with
  | nil=>cases this
  | cons a r=>exact Nat.succ_pos _
 have h0:ps[0]?=some (0,0):=by rw [<-List.head?_eq_getElem?];exact h.1.1
 have ix:∀ (j:Int) (k:Nat) (a:Pt),j=(k:Int)->ps[k]?=some a->oIx (.tup (ps.map dp)) (.int j)=.ok (dp a):=by
  intro j k a hj ha
  subst hj
  exact wA (by omega) (by simpa using ha)
 unfold iK
 walk_at "ev"
 rw [decide_eq_false (by omega)]
 walk_at "ev"
 rw [ix 0 0 _ rfl h0]
 walk_at "ev"
 rw [show (.tup [.tup [.int 0,.int 1],.tup [.int 0,.int 1]]:D)=dp (0,0) from rfl]
 walk_at "ev"
 refine wF (Q:=fun r=>r.bind fin=.ok (.v (.bl true))) (fun ρ=>∃ a b,ρ=[.val (.tup (ps.map dp)),a,b]) ⟨_,_,rfl⟩ ?_ ?_
 ·rintro d ρ hd ⟨a,b,rfl⟩
  obtain ⟨p,hp,rfl⟩:=List.mem_map.mp hd
  have zp:=hs p hp
  walk_at "ev"
  rw [iN zp.1 (by omega)]
  walk_at "ev"
  rw [iN zp.2 (by omega)]
  walk_at "ev"
  exact ⟨_,rfl,_,_,rfl⟩
 ·rintro ρ' ⟨a,b,rfl⟩
  walk_at "ev"
  rw [zAm (by omega) (by omega) (by omega) (by omega)]
  walk_at "ev"
  refine lG (Q:=fun r=>r.bind fin=.ok (.v (.bl true))) (fun i ρ=>∃ a b,ρ=[.val (.tup (ps.map dp)),a,b]) ⟨_,_,rfl⟩ ?_ ?_
  ·rintro i e ρ hd ⟨a,b,rfl⟩
   obtain ⟨hi,rfl⟩:=zEh hd
   have h1:ps[i]?=some ps[i]:=List.getElem?_eq_getElem _
   have h2:ps[i+1]?=some ps[i+1]:=List.getElem?_eq_getElem _
   have z1:=hs _ (List.mem_of_getElem? h1)
   have z2:=hs _ (List.mem_of_getElem? h2)
   have za:=qG h.1.2 (Nat.lt_succ_self i) h1 h2
   generalize ps[i]=u at h1 z1 za
   generalize ps[i+1]=v at h2 z2 za
   walk_at "ev"
   rw [ix _ i _ (by omega) h1]
   walk_at "ev"
   rw [ix _ (i+1) _ (by omega) h2]
   walk_at "ev"
   rw [tX z1.1 z2.1 (by omega),decide_eq_true za.1]
   walk_at "ev"
   rw [ix _ (i+1) _ (by omega) h2]
   walk_at "ev"
   rw [ix _ i _ (by omega) h1]
   walk_at "ev"
   rw [tX z2.2 z1.2 (by omega),decide_eq_false (by rw [Rat.not_lt];exact za.2)]
   walk_at "ev"
   exact ⟨_,rfl,_,_,rfl⟩
  ·rintro ρ' ⟨a,b,rfl⟩
   walk_at "ev"
   rw [oO hpos (by omega) hs hn _ (.inr rfl),zAx h.2]
   walk_at "ev"
   rw [zAE (zId _)]
   walk_at "ev"
theorem uV (ns:List Int) (k:Int) (h:0<=k):eR [.lst (ns.map D.int),.int k]=.ok (.v (.int (ns.getD k.toNat 0))):=by
 unfold eR
 walk_at "ev"
 by_cases c:k < (ns.length:Int)
 ·rw [decide_eq_true c]
  walk_at "ev"
  have hk:k.toNat < ns.length:=by omega
  rw [rD h (List.getElem?_eq_getElem hk),List.getD_eq_getElem?_getD,List.getElem?_eq_getElem hk]
  rfl
 ·rw [decide_eq_false c]
  walk_at "ev"
  rw [List.getD_eq_getElem?_getD,List.getElem?_eq_none (by omega)]
  rfl
theorem zEO (cells:List Int) (plan:Int) (hl:cells.length<=100):∃ cs:List Int,fN [.lst (cells.map D.int),.int plan]=.ok (.f (cs.map D.int))/\cs.length=cells.length/\∀ c∈cs,0<=c/\c < 10^30:=by
 unfold fN
 walk_at "ev"
 refine lG (Q:=fun r=>∃ cs:List Int,r.bind fin=.ok (.f (cs.map D.int))/\cs.length=cells.length/\∀ c∈cs,0<=c/\c < 10^30) (k:=zHd kR) (fun i ρ=>∃ (cs:List Int) (a b:Sl),ρ=[.val (.lst (cells.map D.int)),.val (.int plan),.own (cs.map D.int),a,b]/\cs.length=i/\∀ c∈cs,0<=c/\c < 10^30) ⟨[],_,_,rfl,rfl,fun c h=>by cases h⟩ ?_ ?_
 ·rintro i d ρ hd ⟨cs,a,b,rfl,hl',hc⟩
  have hi:i < cells.length:=by have:=(List.getElem?_eq_some_iff.mp hd).1;rwa [List.length_map] at this
  obtain ⟨cell,hcm,rfl⟩:=List.mem_map.mp (List.mem_of_getElem? hd)
  obtain ⟨j,ej,hj⟩:∃ j:Int,ofO (atD [.int 0,.int 0,.int 1,.int 2] (plan % 4))=.ok (.int j)/\(j=0∨j=1∨j=2):=by
   rcases (show plan % 4=0∨plan % 4=1∨plan % 4=2∨plan % 4=3 by omega) with h | h | h | h<;>rw [h]
   ·exact ⟨0,rfl,.inl rfl⟩
   ·exact ⟨0,rfl,.inl rfl⟩
   ·exact ⟨1,rfl,.inr (.inl rfl)⟩
   ·exact ⟨2,rfl,.inr (.inr rfl)⟩
  generalize hm:(cell * 48271+17) % 2147483647=mix
  obtain ⟨c,c0,c1,ce⟩:∃ c:Int,0<=c/\c < 10^30/\ofO (atD [.int (mix / 7 % 13),.int (mix / 97 % 4),.int (cell % 10^30)] j)=.ok (.int c):=by
   have a:=Int.emod_nonneg cell (show (10:Int)^30≠0 by decide)
   have b:=Int.emod_lt_of_pos cell (show (0:Int) < 10^30 by decide)
   rcases hj with rfl | rfl | rfl
   ·exact ⟨mix / 7 % 13,by omega,by omega,rfl⟩
   ·exact ⟨mix / 97 % 4,by omega,by omega,rfl⟩
   ·exact ⟨cell % 10^30,a,b,rfl⟩
  refine ⟨[.val (.lst (cells.map D.int)),.val (.int plan),.own ((cs++[c]).map D.int),.val (.int cell),.val (.int mix)],?_,cs++[c],_,_,rfl,by rw [List.length_append,hl'];rfl,fun z hz=>?_⟩
  ·walk_at "ev"
   rw [hm,zKV,ej]
   walk_at "ev"
   rw [zKV,ce]
   walk_at "ev"
   rw [if_pos (by omega),List.map_append]
   rfl
  ·rcases List.mem_append.mp hz with h | h
   ·exact hc z h
   ·rw [List.mem_singleton.mp h];exact ⟨c0,c1⟩
 ·rintro ρ ⟨cs,a,b,rfl,hl',hc⟩
  rw [List.length_map] at hl'
  exact ⟨cs,rfl,hl',hc⟩
theorem zDD (L:List (List Pt)):dep (.lst (L.map fun ps=>D.tup (ps.map dp)))<=50:=by
 have:depS (L.map fun ps=>D.tup (ps.map dp))<=4:=zAI fun d hd=>by
  obtain ⟨ps,_,rfl⟩:=List.mem_map.mp hd
  rw [dep]
  have:depS (ps.map dp)<=3:=zAI fun e he=>by
   obtain ⟨p,_,rfl⟩:=List.mem_map.mp he
   exact Nat.le_trans (Nat.le_of_eq (dep_dp p)) (by decide)
  omega
 rw [dep]
 omega
structure Lev (t:Rat):Prop where
 nn:0<=t
 up:t<=((10^30:Int):Rat)
 dn:∃ B:Int,0 < B/\B < 2^42/\Dn B t
theorem zNi {ws cs:List Int} {t:Rat} {B:Int} (hB:Dn B t) (i:Nat):Dn B (dN (cR cs) (cR ws) t i):=by
 refine Dn.mn ?_ (Dn.int _ _)
 obtain ⟨k,hk⟩:=hB
 refine ⟨ws.getD i 0 * k,?_⟩
 rw [Rat.intCast_mul,<-hk]
 show cR ws i * t * _=cR ws i * _
 grind
theorem zHz {f:Nat->Rat} {B:Int} (h:∀ i,Dn B (f i)):∀ l:List Nat,Dn B (fY f l)
 | []=>Dn.zero B
 | i::l=>by rw [aX];exact (h i).add (zHz h l)
theorem zHT {f:Nat->Rat}:∀ {l:List Nat},(∀ i∈l,0<=f i)->0<=fY f l
 | [],_=>Rat.le_refl
 | i::l,h=>by
  have a:=h i List.mem_cons_self
  have b:=zHT (f:=f) (l:=l) fun j hj=>h j (List.mem_cons_of_mem _ hj)
  rw [aX];grind
theorem zNn {cs:List Int} (hc:Cl cs) {i:Nat} (hi:i < cs.length):0<=cR cs i/\cs.getD i 0 < 10^30:=
 ⟨Rat.intCast_nonneg.mpr (hc.nn _ (List.mem_of_getElem? (bE hi))),hc.up _ (List.mem_of_getElem? (bE hi))⟩
theorem yL {α β:Type} {u:α->D} {v:β->D}:∀ (l:List α) (m:List β),iD (l.map u) (m.map v)=(l.zip m).map fun p=>.tup [u p.1,v p.2]
 | [],_=>by simp [iD]
 | _::_,[]=>by simp [iD]
 | a::l,b::m=>by rw [List.map_cons,List.map_cons,List.zip_cons_cons,List.map_cons,<-yL l m];rfl
def zNH (t:Rat):Prop:=0<=t/\t<=((10^30:Int):Rat)/\∃ B:Int,0 < B/\B<=10^6/\Dn B t
theorem zJA (cs:List Int):cs.map D.int=(List.range cs.length).map fun i=>D.int (cs.getD i 0):=by
 refine List.ext_getElem (by rw [List.length_map,List.length_map,List.length_range]) fun i h1 h2=>?_
 have hi:i < cs.length:=by rw [List.length_map] at h1;exact h1
 rw [List.getElem_map,List.getElem_map,List.getElem_range,List.getD_eq_getElem?_getD,List.getElem?_eq_getElem hi]
 rfl
structure Ls (cs:List Int) (f:Nat->List Pt):Prop where
 ln:∀ i,i < cs.length->zJl (f i)/\(f i).getLast?=some ((cs.sum:Rat),cR cs i)
 le:∀ i,i < cs.length->(f i).length<=30
 sz:∀ i,i < cs.length->∀ p∈f i,SzP 670 p
def lnD (cs:List Int) (f:Nat->List Pt):List D:=(List.range cs.length).map fun i=>D.tup ((f i).map dp)
theorem iC {cs:List Int} (hc:Cl cs) {f:Nat->List Pt} (h:Ls cs f):dP [.lst (lnD cs f),.lst (cs.map D.int)]=.ok (.v (.bl true)):=by
 have hi:=hc.hi
 have ll:(lnD cs f).length=cs.length:=by unfold lnD;rw [List.length_map,List.length_range]
 unfold dP
 walk_at "ev"
 rw [ll]
 walk_at "ev"
 rw [oE rfl rfl]
 walk_at "ev"
 have ep:iD (lnD cs f) (cs.map D.int)=(List.range cs.length).map fun i=>D.tup [D.tup ((f i).map dp),D.int (cs.getD i 0)]:=by
  unfold lnD
  rw [show iD ((List.range cs.length).map fun i=>D.tup ((f i).map dp)) (cs.map D.int)=iD ((List.range cs.length).map fun i=>D.tup ((f i).map dp)) ((List.range cs.length).map fun i=>D.int (cs.getD i 0)) by rw [<-zJA],yL,vC,List.map_map]
  rfl
 rw [ep]
 refine lG (Q:=fun r=>r.bind fin=.ok (.v (.bl true))) (k:=zHd jM) (fun k ρ=>∃ (a b:Sl),ρ=[.val (.lst (lnD cs f)),.val (.lst (cs.map D.int)),a,b]) ⟨_,_,rfl⟩ ?_ ?_
 ·rintro k d ρ hd ⟨a,b,rfl⟩
  have hk:k < cs.length:=by have:=(List.getElem?_eq_some_iff.mp hd).1;rwa [List.length_map,List.length_range] at this
  have ed:d=.tup [D.tup ((f k).map dp),D.int (cs.getD k 0)]:=by
   rw [List.getElem?_map,List.getElem?_range hk] at hd
   exact (Option.some.inj hd).symm
  subst ed
  obtain ⟨ln,la⟩:=h.ln k hk
  have l0:1<=(f k).length:=by
   cases e:f k with
   | nil=>rw [e] at la;cases la
   | cons a r=>exact Nat.succ_pos _
  have lx:oIx (.tup ((f k).map dp)) (.int (-1))=.ok (dp ((cs.sum:Rat),cR cs k)):=zID (i:=-1) (k:=1) rfl (by decide) l0 (by rw [<-List.getLast?_eq_getElem?];exact la)
  refine ⟨_,?_,.val (.tup ((f k).map dp)),.val (.int (cs.getD k 0)),rfl⟩
  walk_at "ev"
  rw [zCx ln (by have:=h.le k hk;omega) (h.sz k hk) (by decide)]
  walk_at "ev"
  rw [lx]
  walk_at "ev"
  rw [show D.tup [.tup [.int cs.sum,.int 1],.tup [.int (cs.getD k 0),.int 1]]=dp ((cs.sum:Rat),cR cs k) from rfl,oNe_dp,decide_eq_true rfl]
  walk_at "ev"
 ·rintro ρ ⟨a,b,rfl⟩
  rfl
theorem zAk {w:Wy} {ws cs J:_} (hw:w.due ws cs) (hc:Cl cs) (js:JS w ws cs J) (lJ:J.length<=30) (zJ:∀ x∈J,Sz 300 x/\∀ i,i < cs.length->Sz 670 (FF w ws cs x i)):Ls cs (wln w ws cs J):=by
 refine ⟨fun i hi=>?_,fun i hi=>?_,fun i hi p hp=>?_⟩
 ·obtain ⟨a,b,_,_⟩:=xO hw hc js hi
  exact ⟨a,b⟩
 ·obtain ⟨ok,la⟩:=zCg hw hc js hi
  have h1:=(uG ok.2).length_le
  have h2:(jpt w ws cs J i).length=J.length:=by unfold jpt;rw [List.length_map]
  show (kX (jpt w ws cs J i)).length<=30
  omega
 ·obtain ⟨_,_,m,_⟩:=xO hw hc js hi
  obtain ⟨m1,m2⟩:=m p hp
  obtain ⟨z1,z2⟩:=zJ p.1 m1
  exact ⟨z1.mono (by decide),by rw [m2];exact z2 i hi⟩
def ddP:Pt->List Pt->List Pt
 | _,[]=>[]
 | k,p::r=>if p=k then ddP k r else p::ddP p r
theorem zAD (F:Rat->Rat):∀ {r:List Rat} {k:Rat},Cn (·<=·) (k::r)->ddP (k,F k) (r.map fun x=>(x,F x))=(ddR k r).map fun x=>(x,F x)
 | [],_,_=>rfl
 | x::r,k,h=>by
  rw [List.map_cons,ddP,ddR]
  have h1:k<=x:=h.1
  by_cases z:k < x
  ·rw [if_pos z,if_neg (fun e=>by have:=congrArg Prod.fst e;simp only at this;grind),List.map_cons,zAD F h.2]
  ·have e:x=k:=by grind
   subst e
   rw [if_pos rfl,if_neg z,zAD F h.2]
def Jo (F:Rat->Rat) (a b:Rat):Prop:=a<=b/\F a<=F b/\Lin F a b
theorem zIs {F:Rat->Rat}:∀ {l:List Rat} {k:Rat},Cn (Jo F) (k::l)->Cn (fun a b=>a < b/\Jo F a b) (k::ddR k l)/\(k::ddR k l).getLast?=(k::l).getLast?
 | [],k,_=>⟨trivial,rfl⟩
 | x::l,k,h=>by
  rw [ddR]
  by_cases z:k < x
  ·rw [if_pos z]
   obtain ⟨i1,i2⟩:=zIs h.2
   refine ⟨⟨⟨z,h.1⟩,i1⟩,?_⟩
   rw [List.getLast?_cons_cons,List.getLast?_cons_cons]
   exact i2
  ·rw [if_neg z]
   have e:k=x:=by have:=h.1.1;grind
   subst e
   obtain ⟨i1,i2⟩:=zIs h.2
   exact ⟨i1,by rw [i2,List.getLast?_cons_cons]⟩
theorem zHw {F:Rat->Rat}:∀ {l:List Rat},Cn (fun a b=>a < b/\Jo F a b) l->(l.map fun x=>(x,F x)).Pairwise asc
 | [],_=>.nil
 | [a],_=>List.pairwise_singleton _ _
 | a::b::l,h=>by
  have ih:=zHw h.2
  rw [List.map_cons]
  refine List.pairwise_cons.mpr ⟨fun p hp=>?_,ih⟩
  have ab:asc (a,F a) (b,F b):=⟨h.1.1,h.1.2.2.1⟩
  rw [List.map_cons] at hp ih
  rcases List.mem_cons.mp hp with rfl | hp
  ·exact ab
  ·have bp:=(List.pairwise_cons.mp ih).1 p hp
   exact ⟨by have:=ab.1;have:=bp.1;simp only at *;grind,by have:=ab.2;have:=bp.2;simp only at *;grind⟩
theorem zLj {F:Rat->Rat} {l:List Rat} {S:Rat} (h:Cn (fun a b=>a < b/\Jo F a b) l) (hd:l.head?=some 0) (la:l.getLast?=some S) {x:Rat} (x0:0<=x) (x1:x<=S):dQ (l.map fun x=>(x,F x)) x=F x:=by
 have up:=zHw h
 have la':(l.map fun x=>(x,F x)).getLast?=some (S,F S):=by rw [List.getLast?_map,la];rfl
 have pt:∀ {k:Nat} {p:Pt},(l.map fun x=>(x,F x))[k]?=some p->l[k]?=some p.1/\p.2=F p.1:=fun {k p} e=>by
  rw [List.getElem?_map] at e
  cases hk:l[k]? with
  | none=>rw [hk] at e;cases e
  | some a=>rw [hk] at e;cases e;exact ⟨rfl,rfl⟩
 rcases zFj up la' (fun p hp=>by rw [List.head?_map,hd] at hp;cases hp;exact x0) x1 with ⟨k,p,e1,e2⟩ | ⟨k,p,q,e1,e2,e3,e4⟩
 ·have v:=gY up e1
  rw [(pt e1).2,e2] at v
  exact v
 ·rw [qB up e1 e2 (Rat.le_of_lt e3) (Rat.le_of_lt e4)]
  obtain ⟨a1,a2⟩:=pt e1
  obtain ⟨b1,b2⟩:=pt e2
  obtain ⟨lt,j⟩:=zIw h a1 b1
  have k':=j.2.2 x (Rat.le_of_lt e3) (Rat.le_of_lt e4)
  unfold itp
  rw [a2,b2]
  generalize F x=u at *
  generalize F p.1=v at *
  generalize F q.1=z at *
  have nz:q.1 - p.1≠0:=by grind
  refine jH nz ?_
  have e:(x - p.1) / (q.1 - p.1) * (q.1 - p.1)=x - p.1:=Rat.div_mul_cancel nz
  generalize (x - p.1) / (q.1 - p.1)=r at *
  grind
theorem zEZ {w:Wy} {ws cs:List Int} {J r:List Rat} {F:Rat->Rat} (hw:w.due ws cs) (hc:Cl cs) (js:JS w ws cs J) {i:Nat} (hi:i < cs.length) (hF:∀ x,0<=x->x<=(cs.sum:Rat)->FF w ws cs x i=F x) (F0:F 0=0) (h:Cn (Jo F) (0::r)) (la:(0::r).getLast?=some (cs.sum:Rat)):dZ (((0:Rat),(0:Rat))::ddP (0,0) (r.map fun x=>(x,F x)))=wln w ws cs J i:=by
 obtain ⟨c1,c2⟩:=zIs h
 have up:=zHw c1
 have e:(((0:Rat),(0:Rat))::ddP (0,0) (r.map fun x=>(x,F x)))=(0::ddR 0 r).map fun x=>(x,F x):=by
  have k:=zAD F (Cn.imp (fun a b h=>h.1) h)
  rw [F0] at k
  rw [k,List.map_cons,F0]
 rw [e]
 generalize hl:0::ddR 0 r=l at *
 have hd:l.head?=some 0:=by rw [<-hl];rfl
 have la':l.getLast?=some (cs.sum:Rat):=by rw [c2];exact la
 have ok:Ok (l.map fun x=>(x,F x)):=⟨by rw [List.head?_map,hd];show some ((0:Rat),F 0)=_;rw [F0],up⟩
 have lp:(l.map fun x=>(x,F x)).getLast?=some ((cs.sum:Rat),F (cs.sum:Rat)):=by rw [List.getLast?_map,la'];rfl
 rw [<-kB up]
 obtain ⟨b1,b2,_,b3⟩:=xO hw hc js hi
 refine zDk (e:=((cs.sum:Rat),F (cs.sum:Rat))) (f:=((cs.sum:Rat),cR cs i)) (pU ok) b1 (by rw [qT up];exact lp) b2 rfl fun x x0 x1=>?_
 rw [uE up,zLj c1 hd la' x0 x1,b3 x x0 x1,hF x x0 x1]
def clp (A c x:Rat):Rat:=mn (ps0 (x - A)) c
theorem zEr {A c x:Rat} (c0:0<=c) (h:x<=A):clp A c x=0:=by unfold clp mn ps0;grind
theorem zIH {A c x:Rat} (h:A<=x) (h':x<=A+c):clp A c x=x - A:=by unfold clp mn ps0;grind
theorem zDO {A c x:Rat} (c0:0<=c) (h:A+c<=x):clp A c x=c:=by unfold clp mn ps0;grind
theorem xK {w:Wy} {ws cs:List Int} {J:List Rat} (hw:w.due ws cs) (hc:Cl cs) (js:JS w ws cs J) {i:Nat} (hi:i < cs.length) {A c:Rat} (A0:0<=A) (c0:0<=c) (AS:A+c<=(cs.sum:Rat)) (hF:∀ x,0<=x->x<=(cs.sum:Rat)->FF w ws cs x i=clp A c x):dZ (((0:Rat),(0:Rat))::ddP (0,0) [(A,0),(A+c,c),((cs.sum:Rat),c)])=wln w ws cs J i:=by
 have e1:clp A c A=0:=zEr c0 Rat.le_refl
 have e2:clp A c (A+c)=c:=zDO c0 Rat.le_refl
 have e3:clp A c (cs.sum:Rat)=c:=zDO c0 AS
 have e0:clp A c 0=0:=zEr c0 A0
 have ac:A<=A+c:=by grind
 have k:=zEZ (r:=[A,A+c,(cs.sum:Rat)]) hw hc js hi hF e0 ⟨⟨A0,by rw [e0,e1];exact Rat.le_refl,Lin.const A0 fun x h1 h2=>zEr c0 h2⟩,⟨ac,by rw [e1,e2];exact c0,Lin.line (m:=1) (k:=-A) ac fun x h1 h2=>by rw [zIH h1 h2];grind⟩,⟨AS,by rw [e2,e3];exact Rat.le_refl,Lin.const AS fun x h1 h2=>zDO c0 h1⟩,trivial⟩ rfl
 rw [<-k]
 simp only [List.map_cons,List.map_nil,e1,e2,e3]
theorem zAy {cs:List Int} (hc:∀ c∈cs,0<=c) {i:Nat} (hi:i < cs.length):0<=(cs.take i).sum/\(cs.take i).sum+cs.getD i 0<=cs.sum:=by
 have nn:∀ l:List Int,(∀ c∈l,0<=c)->0<=l.sum:=fun l h=>by
  induction l with
  | nil=>exact Int.le_refl 0
  | cons a l ih=>rw [List.sum_cons];have:=h a List.mem_cons_self;have:=ih fun c hc=>h c (List.mem_cons_of_mem _ hc);omega
 have e:cs.sum=(cs.take i).sum+(cs.getD i 0+(cs.drop (i+1)).sum):=by
  have h1:cs=cs.take i++(cs.getD i 0::cs.drop (i+1)):=by
   rw [List.getD_eq_getElem?_getD,List.getElem?_eq_getElem hi]
   show cs=cs.take i++(cs[i]::cs.drop (i+1))
   rw [<-List.drop_eq_getElem_cons hi,List.take_append_drop]
  have h2:=congrArg List.sum h1
  rw [List.sum_append,List.sum_cons] at h2
  exact h2
 have a:=nn (cs.take i) fun c h=>hc c (List.mem_of_mem_take h)
 have b:=nn (cs.drop (i+1)) fun c h=>hc c (List.mem_of_mem_drop h)
 exact ⟨a,by omega⟩
def thr (A c S:Int):List Pt:=dZ (((0:Rat),(0:Rat))::ddP (0,0) [((A:Rat),0),(((A+c:Int):Rat),(c:Rat)),((S:Rat),(c:Rat))])
theorem zIu {cs:List Int} {J:List Rat} (hc:Cl cs) (js:JS .row [] cs J) {i:Nat} (hi:i < cs.length):thr (cs.take i).sum (cs.getD i 0) cs.sum=wln .row [] cs J i:=by
 obtain ⟨t0,t1⟩:=zAy hc.nn hi
 have c0:=hc.nn _ (List.mem_of_getElem? (bE hi))
 unfold thr
 rw [Rat.intCast_add]
 refine xK (w:=.row) rfl hc js hi (Rat.intCast_nonneg.mpr t0) (Rat.intCast_nonneg.mpr c0) (by rw [<-Rat.intCast_add];exact Rat.intCast_le_intCast.mpr t1) fun x x0 x1=>?_
 rw [<-zCD (M:=0) (w:=.row) (f:=zAd cs x) rfl hc x0 x1 (fun j _=>rfl) hi]
 unfold zAd
 rw [rG cs 0 x i hi,Int.zero_add]
 rfl
theorem zGg {cs:List Int} {i:Nat} (hi:i < cs.length):(cs.reverse.take (cs.length - 1 - i)).sum=cs.sum - (cs.take i).sum - cs.getD i 0/\cs.reverse.getD (cs.length - 1 - i) 0=cs.getD i 0/\cs.reverse.sum=cs.sum:=by
 have sr:∀ l:List Int,l.reverse.sum=l.sum:=fun l=>by
  induction l with
  | nil=>rfl
  | cons a l ih=>rw [List.reverse_cons,List.sum_append,ih,List.sum_cons,List.sum_cons,List.sum_nil];omega
 refine ⟨?_,?_,sr cs⟩
 ·rw [List.take_reverse,sr]
  have e:cs.length - (cs.length - 1 - i)=i+1:=by omega
  rw [e]
  have h1:cs=cs.take i++(cs.getD i 0::cs.drop (i+1)):=by
   rw [List.getD_eq_getElem?_getD,List.getElem?_eq_getElem hi]
   show cs=cs.take i++(cs[i]::cs.drop (i+1))
   rw [<-List.drop_eq_getElem_cons hi,List.take_append_drop]
  have h2:=congrArg List.sum h1
  rw [List.sum_append,List.sum_cons] at h2
  omega
 ·rw [List.getD_eq_getElem?_getD,List.getElem?_reverse (by omega),List.getD_eq_getElem?_getD]
  congr 2
  omega
theorem zGf {cs:List Int} {J:List Rat} (hc:Cl cs) (js:JS .back [] cs J) {i:Nat} (hi:i < cs.length):thr (cs.reverse.take (cs.length - 1 - i)).sum (cs.reverse.getD (cs.length - 1 - i) 0) cs.reverse.sum=wln .back [] cs J i:=by
 obtain ⟨r1,r2,r3⟩:=zGg hi
 rw [r1,r2,r3]
 obtain ⟨t0,t1⟩:=zAy hc.nn hi
 have c0:=hc.nn _ (List.mem_of_getElem? (bE hi))
 have q0:(0:Rat)<=((cs.take i).sum:Rat):=Rat.intCast_nonneg.mpr t0
 have qc:(0:Rat)<=(cs.getD i 0:Rat):=Rat.intCast_nonneg.mpr c0
 have q1:((cs.take i).sum:Rat)+(cs.getD i 0:Rat)<=(cs.sum:Rat):=by rw [<-Rat.intCast_add];exact Rat.intCast_le_intCast.mpr t1
 unfold thr
 rw [Rat.intCast_add]
 refine xK (w:=.back) rfl hc js hi (Rat.intCast_nonneg.mpr (by omega)) qc (by rw [<-Rat.intCast_add];exact Rat.intCast_le_intCast.mpr (by omega)) fun x x0 x1=>?_
 rw [<-zCD (M:=0) (w:=.back) (f:=fun j=>cR cs j - zAd cs ((cs.sum:Rat) - x) j) rfl hc x0 x1 (fun j _=>rfl) hi]
 unfold zAd
 rw [rG cs 0 _ i hi,Int.zero_add,Rat.intCast_sub,Rat.intCast_sub]
 unfold clp mn ps0 cR
 grind
theorem zFK {cs:List Int} {J:List Rat} (hc:Cl cs) (js:JS .part [] cs J) {i:Nat} (hi:i < cs.length):dZ (((0:Rat),(0:Rat))::ddP (0,0) [((cs.sum:Rat),cR cs i)])=wln .part [] cs J i:=by
 have j:=(zFh hc).1
 have k:=zEZ (w:=.part) (r:=[(cs.sum:Rat)]) (F:=fun x=>FF .part [] cs x i) rfl hc js hi (fun x _ _=>rfl) (zAG (w:=.part) rfl hc hi) ⟨⟨j.2.1,zFb (w:=.part) rfl hc Rat.le_refl j.2.1 Rat.le_refl hi,j.2.2.2 i hi⟩,trivial⟩ rfl
 rw [<-k]
 simp only [List.map_cons,List.map_nil,zAT (w:=.part) rfl hc hi]
theorem zAq:∀ (ps:List Pt) (k:Pt),(ddP k ps).Sublist ps
 | [],_=>.slnil
 | p::ps,k=>by
  rw [ddP]
  split
  ·exact (zAq ps k).cons p
  ·exact (zAq ps p).cons₂ p
theorem wG {d:D}:∀ (ps pre:List Pt) (k:Pt) (a:Sl),pre.length+ps.length<=1000->∃ a',fP (gName 2) gO (ps.map dp) [.val d,.own ((pre++[k]).map dp),a]=.ok (.nx [.val d,.own ((pre++k::ddP k ps).map dp),a'])
 | [],pre,k,a,_=>⟨a,rfl⟩
 | p::ps,pre,k,a,hl=>by
  rw [List.length_cons] at hl
  have ne:oEq (.lst ((pre++[k]).map dp)) (.lst [])=.ok (.bl false):=by
   have:=zIr (pre++[k]) []
   rw [List.map_nil] at this
   rw [this,decide_eq_false (by simp)]
  have la:oIx (.lst ((pre++[k]).map dp)) (.int (-1))=.ok (dp k):=uX (i:=-1) (k:=1) rfl (by decide) (by rw [List.length_append,List.length_singleton];omega) (by rw [<-List.getLast?_eq_getElem?,List.getLast?_concat])
  rw [List.map_cons,ddP]
  by_cases z:p=k
  ·obtain ⟨a',e⟩:=wG (d:=d) ps pre k (.val (dp p)) (by omega)
   refine ⟨a',?_⟩
   rw [if_pos z,<-e]
   refine dG rfl ?_
   generalize hO:(pre++[k]).map dp=O at ne la ⊢
   walk_at "ev"
   rw [ne]
   walk_at "ev"
   rw [la]
   walk_at "ev"
   rw [decide_eq_true z]
   walk_at "ev"
  ·obtain ⟨a',e⟩:=wG (d:=d) ps (pre++[k]) p (.val (dp p)) (by rw [List.length_append,List.length_singleton];omega)
   refine ⟨a',?_⟩
   rw [if_neg z,show pre++k::p::ddP p ps=pre++[k]++p::ddP p ps by simp,<-e]
   refine dG rfl ?_
   rw [List.map_append (l₁:=pre++[k])]
   have lO:((pre++[k]).map dp).length<=1001:=by rw [List.length_map,List.length_append,List.length_singleton];omega
   generalize hO:(pre++[k]).map dp=O at ne la lO ⊢
   walk_at "ev"
   rw [ne]
   walk_at "ev"
   rw [la]
   walk_at "ev"
   rw [decide_eq_false z]
   walk_at "ev"
   rw [if_pos (by omega)]
theorem mU {p:Pt} {ps:List Pt} {n:Nat} (hl:ps.length<=100) (hs:∀ q∈p::ps,SzP n q) (hn:n<=2000):cI [.lst ((p::ps).map dp)]=.ok (.v (.tup ((dZ (p::ddP p ps)).map dp))):=by
 obtain ⟨a',e⟩:=wG (d:=.lst (dp p::ps.map dp)) ps [] p (.val (dp p)) (by show 0+_<=_;omega)
 have sub:=zAq ps p
 have ff:=oO (ps:=p::ddP p ps) (Nat.succ_pos _) (by have:=sub.length_le;rw [List.length_cons];omega) (n:=n) (fun q hq=>hs q (by
  rcases List.mem_cons.mp hq with rfl | hq
  ·exact List.mem_cons_self
  ·exact List.mem_cons_of_mem _ (sub.subset hq))) hn (.lst ((p::ddP p ps).map dp)) (.inl rfl)
 unfold cI
 walk_at "ev"
 rw [dG (ρ1:=[.val (.lst (dp p::ps.map dp)),.own [],.val (dp p)]) (ρ2:=[.val (.lst (dp p::ps.map dp)),.own (([]++[p]).map dp),.val (dp p)]) rfl (by
  unfold gO
  walk_at "ev"
  rw [show oEq (.lst []) (.lst [])=.ok (.bl true) from rfl]
  walk_at "ev"),e]
 walk_at "ev"
 rw [show dp p::List.map dp (ddP p ps)=(p::ddP p ps).map dp from rfl,ff]
 walk_at "ev"
def zJr (ds:List Int) (i:Nat):D:=D.tup ((thr (ds.take i).sum (ds.getD i 0) ds.sum).map dp)
theorem xZ {ds:List Int} (hc:Cl ds):eO [.lst (ds.map D.int)]=.ok (.f ((List.range ds.length).map (zJr ds))):=by
 have hi:=hc.hi
 have sm:=hc.sum
 unfold eO
 walk_at "ev"
 refine lG (Q:=fun r=>r.bind fin=.ok (.f ((List.range ds.length).map (zJr ds)))) (k:=zHd qV) (fun k ρ=>∃ (a b:Sl),ρ=[.val (.lst (ds.map D.int)),.own ((List.range k).map (zJr ds)),.val (.int (ds.take k).sum),a,b]/\k<=ds.length) ⟨_,_,rfl,Nat.zero_le _⟩ ?_ ?_
 ·rintro k d ρ hd ⟨a,b,rfl,_⟩
  have hk:k < ds.length:=by have:=(List.getElem?_eq_some_iff.mp hd).1;rwa [List.length_map] at this
  have ed:d=.int (ds.getD k 0):=by
   rw [List.getElem?_map,bE hk] at hd
   exact (Option.some.inj hd).symm
  subst ed
  obtain ⟨t0,t1⟩:=zAy hc.nn hk
  have c0:=hc.nn _ (List.mem_of_getElem? (bE hk))
  have tk:(ds.take (k+1)).sum=(ds.take k).sum+ds.getD k 0:=by rw [List.take_succ,List.sum_append,bE hk];simp
  have ft:=mU (n:=110) (p:=((0:Rat),(0:Rat))) (ps:=[(((ds.take k).sum:Int),0),((((ds.take k).sum+ds.getD k 0:Int)),((ds.getD k 0:Int):Rat)),(((ds.sum:Int):Rat),((ds.getD k 0:Int):Rat))]) (by show 3<=100;decide) (by
   have zi:∀ z:Int,0<=z->z<=ds.sum->Sz 110 (z:Rat):=fun z h1 h2=>bZ (by omega) (by decide)
   have z0:Sz 110 (0:Rat):=zi 0 (by omega) sm.1
   intro q hq
   simp only [List.mem_cons,List.not_mem_nil,or_false] at hq
   rcases hq with rfl | rfl | rfl | rfl
   ·exact ⟨z0,z0⟩
   ·exact ⟨zi _ t0 (by omega),z0⟩
   ·exact ⟨zi _ (by omega) t1,zi _ c0 (by omega)⟩
   ·exact ⟨zi _ sm.1 (Int.le_refl _),zi _ c0 (by omega)⟩) (by decide)
  refine ⟨[.val (.lst (ds.map D.int)),.own ((List.range (k+1)).map (zJr ds)),.val (.int (ds.take (k+1)).sum),.val (.int (ds.getD k 0)),.val (.lst [.tup [.int 0,.int 0],.tup [.int (ds.take k).sum,.int 0],.tup [.int ((ds.take k).sum+ds.getD k 0),.int (ds.getD k 0)],.tup [.int ds.sum,.int (ds.getD k 0)]])],?_,_,_,rfl,by omega⟩
  have cp:∀ ρ,ρ.length=5->zBn (lF (aE (lF (aE (aK 5) (aE (eC (.int 1)) aNil))) (aE (lF (aE (aK 6) (aE (eC (.int 1)) aNil))) aNil))) ρ [.tup [.int 0,.int 0],.tup [.int (ds.take k).sum,.int 0],.tup [.int ((ds.take k).sum+ds.getD k 0),.int (ds.getD k 0)],.tup [.int ds.sum,.int (ds.getD k 0)]]=.ok ((((0:Rat),(0:Rat))::[(((ds.take k).sum:Int),0),((((ds.take k).sum+ds.getD k 0:Int)),((ds.getD k 0:Int):Rat)),(((ds.sum:Int):Rat),((ds.getD k 0:Int):Rat))]).map dp):=fun ρ hρ=>by
   match ρ,hρ with
   | [a,b,c,d,e],_=>
    exact iI (u:=D.int) (v:=D.int) (l:=[0,(ds.take k).sum,(ds.take k).sum+ds.getD k 0,ds.sum]) (m:=[0,0,ds.getD k 0,ds.getD k 0]) (g:=fun x y=>D.tup [D.tup [.int x,.int 1],D.tup [.int y,.int 1]]) (by show 4<=_;decide) (fun p hp=>by
     walk_at "ev")
  unfold qR rH rL
  walk_at "ev"
  rw [cp _ rfl]
  walk_at "ev"
  rw [show dp ((0:Rat),(0:Rat))::[dp (((ds.take k).sum:Int),0),dp ((((ds.take k).sum+ds.getD k 0:Int)),((ds.getD k 0:Int):Rat)),dp (((ds.sum:Int):Rat),((ds.getD k 0:Int):Rat))]=(((0:Rat),(0:Rat))::[(((ds.take k).sum:Int),0),((((ds.take k).sum+ds.getD k 0:Int)),((ds.getD k 0:Int):Rat)),(((ds.sum:Int):Rat),((ds.getD k 0:Int):Rat))]).map dp from rfl,ft]
  walk_at "ev"
  rw [if_pos (by rw [List.length_range];omega),tk,List.range_succ,List.map_append]
  rfl
 ·rintro ρ ⟨a,b,rfl,_⟩
  rw [List.length_map]
  rfl
theorem zDj {α:Type} (g:Nat->α) (n:Nat):((List.range n).map g).reverse=(List.range n).map fun i=>g (n - 1 - i):=by
 refine List.ext_getElem (by simp) fun i h1 h2=>?_
 have hi:i < n:=by simpa using h2
 rw [List.getElem_reverse,List.getElem_map,List.getElem_map,List.getElem_range,List.getElem_range,List.length_map,List.length_range]
theorem zJX {α:Type} (g:Int->α) (cs:List Int):cs.map g=(List.range cs.length).map fun i=>g (cs.getD i 0):=by
 refine List.ext_getElem (by rw [List.length_map,List.length_map,List.length_range]) fun i h1 h2=>?_
 have hi:i < cs.length:=by rw [List.length_map] at h1;exact h1
 rw [List.getElem_map,List.getElem_map,List.getElem_range,List.getD_eq_getElem?_getD,List.getElem?_eq_getElem hi]
 rfl
theorem zJY {cs:List Int} (hc:Cl cs):Cl cs.reverse:=⟨fun c h=>hc.nn c (List.mem_reverse.mp h),fun c h=>hc.up c (List.mem_reverse.mp h),by rw [List.length_reverse];exact hc.lo,by rw [List.length_reverse];exact hc.hi⟩
theorem zEV (cs:List Int) (f:Nat->List Pt):dep (.lst (lnD cs f))<=50:=by
 have:=zDD ((List.range cs.length).map f)
 rw [List.map_map] at this
 exact this
theorem zCa {ns cs:List Int} {plan:Int} {hd:D} (sh:Sq hd cs) (hc:Cl cs):(vR [.val (.lst (ns.map D.int)),.val (.int plan),.val (.lst (cs.map D.int)),.val hd,.un,.un,.un,.un,.un]).bind fin=.ok (.v (.bl true)):=by
 have hi:=hc.hi
 have sm:=hc.sum
 obtain ⟨J,eJ,js,lJ,zJ⟩:=jC (w:=.row) (ws:=[]) (wd:=.lst []) (cd:=hd) (.inl rfl) sh rfl hc
 obtain ⟨J2,eJ2,js2,lJ2,zJ2⟩:=jC (w:=.back) (ws:=[]) (wd:=.tup []) (cd:=hd) (.inr rfl) sh rfl hc
 obtain ⟨J3,eJ3,js3,lJ3,zJ3⟩:=jC (w:=.part) (ws:=[]) (wd:=.lst []) (cd:=hd) (.inl rfl) sh rfl hc
 obtain ⟨J4,eJ4,js4,lJ4,zJ4⟩:=jC (w:=.row) (ws:=[]) (wd:=.tup []) (cd:=hd) (.inr rfl) sh rfl hc
 have a1:=iC hc (zAk (w:=.row) rfl hc js lJ zJ)
 have a2:=iC hc (zAk (w:=.back) rfl hc js2 lJ2 zJ2)
 have a3:=iC hc (zAk (w:=.part) rfl hc js3 lJ3 zJ3)
 have e1:bR [.str (Str.ofString "row"),.lst [],hd]=.ok (.f (lnD cs (wln .row [] cs J))):=eJ
 have e2:bR [.str (Str.ofString "back"),.tup [],hd]=.ok (.f (lnD cs (wln .back [] cs J2))):=eJ2
 have e3:bR [.str (Str.ofString "part"),.lst [],hd]=.ok (.f (lnD cs (wln .part [] cs J3))):=eJ3
 have e4:bR [.str (Str.ofString "row"),.tup [],hd]=.ok (.f (lnD cs (wln .row [] cs J))):=by
  have:lnD cs (wln .row [] cs J4)=lnD cs (wln .row [] cs J):=List.map_congr_left fun i h=>by rw [zHO (w:=.row) rfl hc js4 js (List.mem_range.mp h)]
  rw [<-this]
  exact eJ4
 have r1:eO [.lst (cs.map D.int)]=.ok (.f (lnD cs (wln .row [] cs J))):=by
  rw [xZ hc]
  exact congrArg (fun l=>Res.ok (Rt.f l)) (List.map_congr_left fun i h=>by unfold zJr;rw [zIu hc js (List.mem_range.mp h)])
 have r2:∃ l,eO [.lst (cs.map D.int).reverse]=.ok (.f l)/\l.reverse=lnD cs (wln .back [] cs J2):=by
  refine ⟨_,by rw [<-List.map_reverse];exact xZ (zJY hc),?_⟩
  rw [zDj,List.length_reverse]
  exact List.map_congr_left fun i h=>by unfold zJr;rw [zGf hc js2 (List.mem_range.mp h)]
 obtain ⟨lr,r2,r3⟩:=r2
 have lR:(lnD cs (wln .row [] cs J)).length=cs.length:=by unfold lnD;rw [List.length_map,List.length_range]
 have d1:=zEV cs (wln .row [] cs J)
 have d2:=zEV cs (wln .back [] cs J2)
 have d3:=zEV cs (wln .part [] cs J3)
 have pt:∀ c∈cs,cI [.lst [.tup [.tup [.int 0,.int 1],.tup [.int 0,.int 1]],.tup [.tup [.int cs.sum,.int 1],.tup [.int c,.int 1]]]]=.ok (.v (.tup ((dZ (((0:Rat),(0:Rat))::ddP (0,0) [((cs.sum:Rat),(c:Rat))])).map dp))):=fun c h=>by
  have c1:=hc.nn c h
  have c2:=hc.up c h
  have z0:Sz 110 (0:Rat):=bZ (k:=0) (by decide) (by decide)
  have z1:Sz 110 (cs.sum:Rat):=bZ (by omega) (by decide)
  have z2:Sz 110 (c:Rat):=bZ (by omega) (by decide)
  exact mU (n:=110) (p:=((0:Rat),(0:Rat))) (ps:=[((cs.sum:Rat),(c:Rat))]) (by show 1<=100;decide) (fun q hq=>by
   simp only [List.mem_cons,List.not_mem_nil,or_false] at hq
   rcases hq with rfl | rfl
   ·exact ⟨z0,z0⟩
   ·exact ⟨z1,z2⟩) (by decide)
 have fl:zBz [hd]=.ok (cs.map D.int):=by rcases sh with rfl | rfl<;>rfl
 have pm:(cs.map fun c:Int=>D.tup ((dZ (((0:Rat),(0:Rat))::ddP (0,0) [((cs.sum:Rat),(c:Rat))])).map dp))=lnD cs (wln .part [] cs J3):=by
  rw [zJX]
  exact List.map_congr_left fun i h=>by rw [<-zFK hc js3 (List.mem_range.mp h)];rfl
 generalize lnD cs (wln .row [] cs J)=R at *
 generalize lnD cs (wln .back [] cs J2)=B at *
 generalize lnD cs (wln .part [] cs J3)=P at *
 unfold vR zDd zBY zBs
 generalize hK:(zBq:Sv)=K
 walk_at "ev"
 rw [e1]
 walk_at "ev"
 rw [e2]
 walk_at "ev"
 rw [e3]
 walk_at "ev"
 rw [zFx (ds:=[.lst R,.lst B,.lst P]) (by walk_at "ev") (fun d hd=>by
  simp only [List.mem_cons,List.not_mem_nil,or_false] at hd
  rcases hd with rfl | rfl | rfl
  ·walk_at "ev"
   rw [a1]
   walk_at "ev"
  ·walk_at "ev"
   rw [a2]
   walk_at "ev"
  ·walk_at "ev"
   rw [a3]
   walk_at "ev")]
 walk_at "ev"
 subst hK
 walk_at "ev"
 rw [r1]
 walk_at "ev"
 rw [zBf d1]
 walk_at "ev"
 rw [r2]
 walk_at "ev"
 rw [r3,zBf d2]
 walk_at "ev"
 rw [jD (u:=D.int) (g:=fun c:Int=>D.tup ((dZ (((0:Rat),(0:Rat))::ddP (0,0) [((cs.sum:Rat),(c:Rat))])).map dp)) (by omega) (fun c h=>by
  have k:=pt c h
  walk_at "ev"
  rw [k]
  walk_at "ev"),pm]
 walk_at "ev"
 rw [zBf d3]
 walk_at "ev"
 rw [if_pos (by omega)]
 walk_at "ev"
 rw [fl]
 walk_at "ev"
 rw [zAE (Nat.le_trans (zBv cs) (by decide))]
 walk_at "ev"
 rw [e4]
 walk_at "ev"
 rw [r1]
 walk_at "ev"
 rw [zAE d1]
 walk_at "ev"
theorem law_true:∀ ns:List Int,ns.length<=63->zIk [.lst (ns.map D.int)]=.ok (.v (.bl true)):=by
 intro ns hl
 generalize hp:ns.getD 0 0=plan
 obtain ⟨cs0,e0,l0,h0⟩:=zEO ((ns.drop 1).take 12) plan (by rw [List.length_take];omega)
 have l6:cs0.length<=12:=by rw [l0,List.length_take];omega
 have p5:0<=plan % 5/\plan % 5 < 5:=⟨Int.emod_nonneg _ (by decide),Int.emod_lt_of_pos _ (by decide)⟩
 have tail:∀ cs:List Int,Cl cs->(vT [.val (.lst (ns.map D.int)),.val (.int plan),.val (.lst (cs.map D.int)),.un,.un,.un,.un,.un,.un]).bind fin=.ok (.v (.bl true)):=fun cs hc=>by
  have g1:=@zCa ns cs plan (.lst (cs.map D.int)) (.inl rfl) hc
  have g2:=@zCa ns cs plan (.tup (cs.map D.int)) (.inr rfl) hc
  unfold vT zEE
  generalize hK:(vR:Sv)=K at g1 g2 ⊢
  walk_at "ev"
  by_cases z:plan / 5 % 2=1
  ·rw [decide_eq_true z]
   walk_at "ev"
   exact g2
  ·rw [decide_eq_false z]
   walk_at "ev"
   exact g1
 unfold zIk zEk zDm
 generalize hK:(vT:Sv)=K at tail ⊢
 walk_at "ev"
 rw [uV ns 0 (by decide)]
 walk_at "ev"
 rw [hp,zEy (by decide) (by decide),<-List.map_drop,<-List.map_take]
 rw [show ((1:Int).toNat)=1 from rfl,show ((13:Int).toNat - 1)=12 from rfl,e0]
 walk_at "ev"
 by_cases z:cs0=[]
 ·subst z
  rw [show oEq (.lst (([]:List Int).map D.int)) (.lst [])=.ok (.bl true) from rfl]
  walk_at "ev"
  exact tail [plan % 5] ⟨fun c h=>by rw [List.mem_singleton.mp h];exact p5.1,fun c h=>by rw [List.mem_singleton.mp h];omega,Nat.le_refl 1,by show 1<=12;decide⟩
 ·rw [show oEq (.lst (cs0.map D.int)) (.lst [])=.ok (.bl false) by
   unfold oEq
   rw [if_pos (Nat.le_trans (zBv cs0) (by decide))]
   obtain ⟨a,r,rfl⟩:=List.exists_cons_of_ne_nil z
   rfl]
  walk_at "ev"
  exact tail cs0 ⟨fun c h=>(h0 c h).1,fun c h=>(h0 c h).2,List.length_pos_iff.mpr z,by omega⟩
end Lw
namespace Lw
open PySem PySem.Spec PyProof.Rows L2 L3
def top (i:Nat):Stmt:=PySem.Challenge.pw_catchhall_k19_lines_in_order_and_by_part.main.body.getD i (.Pass ⟨0,0,0,0⟩)
abbrev fQ:Stmt:=top 9
theorem cA:FnScope ["one", "two", "rest"] ["one", "two"] (aJ fQ):=⟨rfl,rfl,rfl,by decide +kernel,rfl,by decide +kernel,by decide +kernel⟩
abbrev zEf:Stmt:=top 10
theorem zAZ:FnScope ["top", "bottom", "divisor"] ["top", "bottom"] (aJ zEf):=⟨rfl,rfl,rfl,by decide +kernel,rfl,by decide +kernel,by decide +kernel⟩
abbrev zAV:Stmt:=top 11
theorem zGo:FnScope ["number"] ["number"] (aJ zAV):=⟨rfl,rfl,rfl,by decide +kernel,rfl,by decide +kernel,by decide +kernel⟩
abbrev zDA:Stmt:=top 12
theorem zIA:FnScope ["one", "two"] ["one", "two"] (aJ zDA):=⟨rfl,rfl,rfl,by decide +kernel,rfl,by decide +kernel,by decide +kernel⟩
abbrev zBj:Stmt:=top 13
theorem zFC:FnScope ["one", "two"] ["one", "two"] (aJ zBj):=⟨rfl,rfl,rfl,by decide +kernel,rfl,by decide +kernel,by decide +kernel⟩
abbrev zAW:Stmt:=top 14
theorem zFz:FnScope ["one", "two"] ["one", "two"] (aJ zAW):=⟨rfl,rfl,rfl,by decide +kernel,rfl,by decide +kernel,by decide +kernel⟩
abbrev zFc:Stmt:=top 15
theorem zJi:FnScope ["one", "two"] ["one", "two"] (aJ zFc):=⟨rfl,rfl,rfl,by decide +kernel,rfl,by decide +kernel,by decide +kernel⟩
abbrev zDi:Stmt:=top 16
theorem zHW:FnScope ["one", "two"] ["one", "two"] (aJ zDi):=⟨rfl,rfl,rfl,by decide +kernel,rfl,by decide +kernel,by decide +kernel⟩
abbrev uR:Stmt:=top 17
theorem zEN:FnScope ["one", "two"] ["one", "two"] (aJ uR):=⟨rfl,rfl,rfl,by decide +kernel,rfl,by decide +kernel,by decide +kernel⟩
abbrev fT:Stmt:=top 18
theorem mI:FnScope ["some", "bottom", "each"] ["some"] (aJ fT):=⟨rfl,rfl,rfl,by decide +kernel,rfl,by decide +kernel,by decide +kernel⟩
abbrev qS:Stmt:=top 22
theorem oD:FnScope ["points", "kept", "point"] ["points"] (aJ qS):=⟨rfl,rfl,rfl,by decide +kernel,rfl,by decide +kernel,by decide +kernel⟩
abbrev kJ:Stmt:=top 23
theorem fU:FnScope ["points", "spot", "ahead", "point"] ["points"] (aJ kJ):=⟨rfl,rfl,rfl,by decide +kernel,rfl,by decide +kernel,by decide +kernel⟩
abbrev jY:Stmt:=top 24
theorem eP:FnScope ["ahead", "point", "later", "rise", "later_rise", "run", "later_run"] ["ahead", "point", "later"] (aJ jY):=⟨rfl,rfl,rfl,by decide +kernel,rfl,by decide +kernel,by decide +kernel⟩
abbrev uY:Stmt:=top 29
theorem zET:FnScope ["way", "weights", "claims"] ["way", "weights", "claims"] (aJ uY):=⟨rfl,rfl,rfl,by decide +kernel,rfl,by decide +kernel,by decide +kernel⟩
abbrev jU:Stmt:=top 30
theorem uQ:FnScope ["way"] ["way"] (aJ jU):=⟨rfl,rfl,rfl,by decide +kernel,rfl,by decide +kernel,by decide +kernel⟩
abbrev gI:Stmt:=top 31
theorem jK:FnScope ["claims", "claim"] ["claims"] (aJ gI):=⟨rfl,rfl,rfl,by decide +kernel,rfl,by decide +kernel,by decide +kernel⟩
abbrev fR:Stmt:=top 32
theorem fA:FnScope ["way", "weights", "many", "due", "weight"] ["way", "weights", "many"] (aJ fR):=⟨rfl,rfl,rfl,by decide +kernel,rfl,by decide +kernel,by decide +kernel⟩
abbrev iB:Stmt:=top 33
theorem pT:FnScope ["way"] ["way"] (aJ iB):=⟨rfl,rfl,rfl,by decide +kernel,rfl,by decide +kernel,by decide +kernel⟩
abbrev dC:Stmt:=top 34
theorem dS:FnScope ["way", "weights", "claims", "catch", "most", "lacking"] ["way", "weights", "claims", "catch"] (aJ dC):=⟨rfl,rfl,rfl,by decide +kernel,rfl,by decide +kernel,by decide +kernel⟩
abbrev lU:Stmt:=top 35
theorem dY:FnScope ["claims", "catch", "left", "amounts", "claim", "amount"] ["claims", "catch"] (aJ lU):=⟨rfl,rfl,rfl,by decide +kernel,rfl,by decide +kernel,by decide +kernel⟩
abbrev kE:Stmt:=top 36
theorem cH:FnScope ["weights", "claims", "catch", "left", "weight", "amounts", "spot", "by_weight"] ["weights", "claims", "catch"] (aJ kE):=⟨rfl,rfl,rfl,by decide +kernel,rfl,by decide +kernel,by decide +kernel⟩
abbrev iW:Stmt:=top 37
theorem yF:FnScope ["weights", "claims"] ["weights", "claims"] (aJ iW):=⟨rfl,rfl,rfl,by decide +kernel,rfl,by decide +kernel,by decide +kernel⟩
abbrev gT:Stmt:=top 38
theorem fX:FnScope ["claims", "catch", "most", "part"] ["claims", "catch"] (aJ gT):=⟨rfl,rfl,rfl,by decide +kernel,rfl,by decide +kernel,by decide +kernel⟩
abbrev gZ:Stmt:=top 39
theorem iO:FnScope ["claims", "catch", "ones"] ["claims", "catch"] (aJ gZ):=⟨rfl,rfl,rfl,by decide +kernel,rfl,by decide +kernel,by decide +kernel⟩
abbrev gE:Stmt:=top 41
theorem fI:FnScope ["way", "weights", "claims", "joints", "dealings"] ["way", "weights", "claims"] (aJ gE):=⟨rfl,rfl,rfl,by decide +kernel,rfl,by decide +kernel,by decide +kernel⟩
abbrev mH:Stmt:=top 42
theorem zCH:FnScope ["joints", "dealings", "spot"] ["joints", "dealings", "spot"] (aJ mH):=⟨rfl,rfl,rfl,by decide +kernel,rfl,by decide +kernel,by decide +kernel⟩
abbrev gJ:Stmt:=top 43
theorem fL:FnScope ["way", "weights", "claims", "most", "early"] ["way", "weights", "claims"] (aJ gJ):=⟨rfl,rfl,rfl,by decide +kernel,rfl,by decide +kernel,by decide +kernel⟩
abbrev kK:Stmt:=top 44
theorem eT:FnScope ["claims", "filled", "joints", "claim"] ["claims"] (aJ kK):=⟨rfl,rfl,rfl,by decide +kernel,rfl,by decide +kernel,by decide +kernel⟩
abbrev iV:Stmt:=top 45
theorem bY:FnScope ["weights", "claims", "filled", "weight", "levels", "joints", "spot"] ["weights", "claims"] (aJ iV):=⟨rfl,rfl,rfl,by decide +kernel,rfl,by decide +kernel,by decide +kernel⟩
abbrev kN:Stmt:=top 46
theorem qH:FnScope ["joints", "most"] ["joints", "most"] (aJ kN):=⟨rfl,rfl,rfl,by decide +kernel,rfl,by decide +kernel,by decide +kernel⟩
abbrev fF:Stmt:=top 47
theorem eU:FnScope ["joints", "kept", "joint"] ["joints"] (aJ fF):=⟨rfl,rfl,rfl,by decide +kernel,rfl,by decide +kernel,by decide +kernel⟩
abbrev iS:Stmt:=top 49
theorem sF:FnScope ["script", "k"] ["script", "k"] (aJ iS):=⟨rfl,rfl,rfl,by decide +kernel,rfl,by decide +kernel,by decide +kernel⟩
abbrev nK:Stmt:=top 50
theorem dW:FnScope ["top", "bottom", "one", "other", "rest"] ["top", "bottom"] (aJ nK):=⟨rfl,rfl,rfl,by decide +kernel,rfl,by decide +kernel,by decide +kernel⟩
abbrev lQ:Stmt:=top 52
theorem zK:FnScope ["one", "two"] ["one", "two"] (aJ lQ):=⟨rfl,rfl,rfl,by decide +kernel,rfl,by decide +kernel,by decide +kernel⟩
abbrev lX:Stmt:=top 53
theorem xM:FnScope ["one", "two"] ["one", "two"] (aJ lX):=⟨rfl,rfl,rfl,by decide +kernel,rfl,by decide +kernel,by decide +kernel⟩
abbrev oF:Stmt:=top 54
theorem zAO:FnScope ["one", "two"] ["one", "two"] (aJ oF):=⟨rfl,rfl,rfl,by decide +kernel,rfl,by decide +kernel,by decide +kernel⟩
abbrev eY:Stmt:=top 55
theorem gP:FnScope ["found", "number"] ["found"] (aJ eY):=⟨rfl,rfl,rfl,by decide +kernel,rfl,by decide +kernel,by decide +kernel⟩
abbrev jV:Stmt:=top 56
theorem bV:FnScope ["points", "told", "k", "straight", "run", "rise", "more", "up"] ["points"] (aJ jV):=⟨rfl,rfl,rfl,by decide +kernel,rfl,by decide +kernel,by decide +kernel⟩
abbrev nU:Stmt:=top 57
theorem lB:FnScope ["found", "point", "k"] ["found"] (aJ nU):=⟨rfl,rfl,rfl,by decide +kernel,rfl,by decide +kernel,by decide +kernel⟩
abbrev iA:Stmt:=top 58
theorem gM:FnScope ["found", "claims", "line", "claim"] ["found", "claims"] (aJ iA):=⟨rfl,rfl,rfl,by decide +kernel,rfl,by decide +kernel,by decide +kernel⟩
abbrev jQ:Stmt:=top 59
theorem fZ:FnScope ["cells", "plan", "claims", "cell", "mix"] ["cells", "plan"] (aJ jQ):=⟨rfl,rfl,rfl,by decide +kernel,rfl,by decide +kernel,by decide +kernel⟩
abbrev iR:Stmt:=top 61
theorem iG:FnScope ["points", "told", "point"] ["points"] (aJ iR):=⟨rfl,rfl,rfl,by decide +kernel,rfl,by decide +kernel,by decide +kernel⟩
abbrev mY:Stmt:=top 62
theorem gB:FnScope ["claims", "due", "ahead", "claim", "points"] ["claims"] (aJ mY):=⟨rfl,rfl,rfl,by decide +kernel,rfl,by decide +kernel,by decide +kernel⟩
abbrev oY:Stmt:=top 63
theorem jN:FnScope ["script", "plan", "claims", "handed", "rows", "backs", "parts", "found", "nought"] ["script"] (aJ oY):=⟨rfl,rfl,rfl,by decide +kernel,rfl,by decide +kernel,by decide +kernel⟩
structure Bt (mg:Str->Option Value):Prop where
 abs:mg "abs" = none
 sorted:mg "sorted" = none
 range:mg "range" = none
 len:mg "len" = none
 tuple:mg "tuple" = none
 sum:mg "sum" = none
 zip:mg "zip" = none
 reversed:mg "reversed" = none
 isinstance:mg "isinstance" = none
 bool:mg "bool" = none
 int:mg "int" = none
 list:mg "list" = none
structure Kt (K:PySem.W.Frag):Prop where
 bool:Kit K "bool"
 int:Kit K "int"
 list:Kit K "list"
 tuple:Kit K "tuple"
structure Ct (K:PySem.W.Frag) (mg:Str->Option Value):Prop where
 ACROSS:∃ v u,mg "ACROSS" = some u/\cQ v u/\IsD K (fun _=>none) v d_ACROSS
 HALF:∃ v u,mg "HALF" = some u/\cQ v u/\IsD K (fun _=>none) v d_HALF
 NOUGHT:∃ v u,mg "NOUGHT" = some u/\cQ v u/\IsD K (fun _=>none) v fW
 UP:∃ v u,mg "UP" = some u/\cQ v u/\IsD K (fun _=>none) v d_UP
 WEIGHTED:∃ v u,mg "WEIGHTED" = some u/\cQ v u/\IsD K (fun _=>none) v d_WEIGHTED
 CONTRARY:∃ a,IsTab K mg "CONTRARY" aS a
structure Rt (K:PySem.W.Frag) (mg:Str->Option Value):Prop where
 BadClaim:∃ C,Err K mg "BadClaim" C
 BadLine:∃ C,Err K mg "BadLine" C
 BadWay:∃ C,Err K mg "BadWay" C
 BadWeights:∃ C,Err K mg "BadWeights" C
 NoFraction:∃ C,Err K mg "NoFraction" C
structure Et (K:PySem.W.Frag) (mg:Str->Option Value):Prop where
theorem zLI {K:PySem.W.Frag} {h:Heap} {mg:Str->Option Value} {t0 t1 t2 t3 t4 t5 t6 t7:Tok} {pHALF0:Addr} {o_pHALF0:Option Addr} {n_pHALF0:Nat} {s_pHALF0:Array (Option Value)} {pNOUGHT1:Addr} {o_pNOUGHT1:Option Addr} {n_pNOUGHT1:Nat} {s_pNOUGHT1:Array (Option Value)} {pWEIGHTED2:Addr} {o_pWEIGHTED2:Option Addr} {n_pWEIGHTED2:Nat} {s_pWEIGHTED2:Array (Option Value)} {a_CONTRARY:Addr} (X:K.In h) (G:h.Ns mainGlobals mg) (n_ACROSS:PySem.W.nsIn K mainGlobals "ACROSS" = some (some (.int (0) t0))) (n_HALF:PySem.W.nsIn K mainGlobals "HALF" = some (some (.ref pHALF0))) (pHALF0_l:K.lookup pHALF0=some ⟨.type "tuple", o_pHALF0,.seq #[.int (1) t1,.int (2) t2] n_pHALF0,s_pHALF0⟩) (n_NOUGHT:PySem.W.nsIn K mainGlobals "NOUGHT" = some (some (.ref pNOUGHT1))) (pNOUGHT1_l:K.lookup pNOUGHT1=some ⟨.type "tuple", o_pNOUGHT1,.seq #[.int (0) t3,.int (1) t4] n_pNOUGHT1,s_pNOUGHT1⟩) (n_UP:PySem.W.nsIn K mainGlobals "UP" = some (some (.int (1) t5))) (n_WEIGHTED:PySem.W.nsIn K mainGlobals "WEIGHTED" = some (some (.ref pWEIGHTED2))) (pWEIGHTED2_l:K.lookup pWEIGHTED2=some ⟨.type "tuple", o_pWEIGHTED2,.seq #[.str "even" t6,.str "lack" t7] n_pWEIGHTED2,s_pWEIGHTED2⟩) (n_CONTRARY:PySem.W.nsIn K mainGlobals "CONTRARY" = some (some (.ref a_CONTRARY))) (aS:PyProof.Rows.KTD.tabLook (PyProof.Rows.KTD.datLooks fun a=>K.lookup a) (fun a=>K.lookup a) a_CONTRARY (zFs Lw.aS)=true):Ct K mg:=⟨⟨.int (0),_,PySem.W.mg_of X G n_ACROSS,⟨_,rfl⟩,(.int _)⟩,⟨.ref pHALF0,_,PySem.W.mg_of X G n_HALF,rfl,(.tup (.inr ⟨_,_,_,pHALF0_l,rfl,rfl,Nat.le_of_ble_eq_true rfl,(.cons (show cQ (.int (1)) _ from ⟨_,rfl⟩) (.cons (show cQ (.int (2)) _ from ⟨_,rfl⟩) .nil))⟩) (.cons (.int _) (.cons (.int _) .nil)))⟩,⟨.ref pNOUGHT1,_,PySem.W.mg_of X G n_NOUGHT,rfl,(.tup (.inr ⟨_,_,_,pNOUGHT1_l,rfl,rfl,Nat.le_of_ble_eq_true rfl,(.cons (show cQ (.int (0)) _ from ⟨_,rfl⟩) (.cons (show cQ (.int (1)) _ from ⟨_,rfl⟩) .nil))⟩) (.cons (.int _) (.cons (.int _) .nil)))⟩,⟨.int (1),_,PySem.W.mg_of X G n_UP,⟨_,rfl⟩,(.int _)⟩,⟨.ref pWEIGHTED2,_,PySem.W.mg_of X G n_WEIGHTED,rfl,(.tup (.inr ⟨_,_,_,pWEIGHTED2_l,rfl,rfl,Nat.le_of_ble_eq_true rfl,(.cons (show cQ (.str "even") _ from ⟨_,rfl⟩) (.cons (show cQ (.str "lack") _ from ⟨_,rfl⟩) .nil))⟩) (.cons (.str _) (.cons (.str _) .nil)))⟩,⟨a_CONTRARY,PySem.W.mg_of X G n_CONTRARY,fun h X=>PyProof.Rows.KTD.text_of_look X aS⟩⟩
theorem zMh {K:PySem.W.Frag} {h:Heap} {mg:Str->Option Value} {C_BadClaim:Addr} {C_BadLine:Addr} {C_BadWay:Addr} {C_BadWeights:Addr} {C_NoFraction:Addr} (X:K.In h) (G:h.Ns mainGlobals mg) (n_BadClaim:PySem.W.nsIn K mainGlobals "BadClaim" = some (some (.ref C_BadClaim))) (x_BadClaim:PySem.W.excIn K C_BadClaim [.type "ValueError", .type "Exception", .type "BaseException", .type "object"] "ValueError.__new__" = true) (n_BadLine:PySem.W.nsIn K mainGlobals "BadLine" = some (some (.ref C_BadLine))) (x_BadLine:PySem.W.excIn K C_BadLine [.type "ValueError", .type "Exception", .type "BaseException", .type "object"] "ValueError.__new__" = true) (n_BadWay:PySem.W.nsIn K mainGlobals "BadWay" = some (some (.ref C_BadWay))) (x_BadWay:PySem.W.excIn K C_BadWay [.type "ValueError", .type "Exception", .type "BaseException", .type "object"] "ValueError.__new__" = true) (n_BadWeights:PySem.W.nsIn K mainGlobals "BadWeights" = some (some (.ref C_BadWeights))) (x_BadWeights:PySem.W.excIn K C_BadWeights [.type "ValueError", .type "Exception", .type "BaseException", .type "object"] "ValueError.__new__" = true) (n_NoFraction:PySem.W.nsIn K mainGlobals "NoFraction" = some (some (.ref C_NoFraction))) (x_NoFraction:PySem.W.excIn K C_NoFraction [.type "ValueError", .type "Exception", .type "BaseException", .type "object"] "ValueError.__new__" = true):Rt K mg:=⟨yZ X G n_BadClaim x_BadClaim PySem.F.excBase_ValueError,yZ X G n_BadLine x_BadLine PySem.F.excBase_ValueError,yZ X G n_BadWay x_BadWay PySem.F.excBase_ValueError,yZ X G n_BadWeights x_BadWeights PySem.F.excBase_ValueError,yZ X G n_NoFraction x_NoFraction PySem.F.excBase_ValueError⟩
theorem zLH {K:PySem.W.Frag} {h:Heap} {mg:Str->Option Value} (X:K.In h) (G:h.Ns mainGlobals mg):Et K mg:=⟨⟩
section
variable {P:Program} {w:World} {K:PySem.W.Frag} {mg:Str->Option Value} {base:Heap} {k:Nat} {f:Addr} {fd:FuncData}
theorem nQ (F:Fn K mg "common_divisor" fQ ["one", "two"] f fd) (B:Bt mg) (KT:Kt K) (C:Ct K mg) (R:Rt K mg) (ET:Et K mg)  : CanM P w K mg base (k+1) "common_divisor" ["one", "two"] cV:=
  aU F cA fun cdv A outer s H E G W WR=>(aG (bI (i:=0) cA.nd rfl (Or.inl rfl) (aZ pJ zBH rfl B.abs boot_abs (aA (aB 0 (pv 0)) aF aD)))
 (aG (bI (i:=1) cA.nd rfl (Or.inl rfl) (aZ pJ zBH rfl B.abs boot_abs (aA (aB 1 (pv 1)) aF aD)))
 (aG (zFe W.own (tst (neA W.u) zCT (aB 1 (pv 1)) (aV aH fun _=>.int _) (bC _)) (aG (bI (i:=2) cA.nd rfl (Or.inl rfl) (bM iQ wI (aB 0 (pv 0)) (aB 1 (pv 1))))
 (aG (bI (i:=0) cA.nd rfl (Or.inl rfl) (aB 1 (pv 1)))
 (aL (bI (i:=1) cA.nd rfl (Or.inl rfl) (aB 2 (pv 2)))))))
 (aL (dI (aB 0 (pv 0)))))))
theorem zGt (F:Fn K mg "whole" zAV ["number"] f fd) (B:Bt mg) (KT:Kt K) (C:Ct K mg) (R:Rt K mg) (ET:Et K mg)  : CanM P w K mg base (k+1) "whole" ["number"] bP:=
 aU F zGo fun cdv A outer s H E G W WR=>(aL (dI (cO (aA (aB 0 (pv 0)) (aA (aV aH fun _=>.int _) aF bG) aD))))
theorem zIM (F:Fn K mg "less" zDi ["one", "two"] f fd) (B:Bt mg) (KT:Kt K) (C:Ct K mg) (R:Rt K mg) (ET:Et K mg)  : CanM P w K mg base (k+1) "less" ["one", "two"] iM:=
 aU F zHW fun cdv A outer s H E G W WR=>(aL (dI (nA vU zGe (bM cE hG (aO aI bU (aB 0 (pv 0)) (aV aH fun _=>.int _) (fun _ _=>rfl)) (aO aI bU (aB 1 (pv 1)) (aV aH fun _=>.int _) (fun _ _=>rfl))) (bM cE hG (aO aI bU (aB 1 (pv 1)) (aV aH fun _=>.int _) (fun _ _=>rfl)) (aO aI bU (aB 0 (pv 0)) (aV aH fun _=>.int _) (fun _ _=>rfl))) (bC _))))
theorem zEG:RankDef fT:=⟨rfl,rfl,rfl,rfl,rfl,fun _ _ _=>⟨_,_,rfl,rfl,rfl⟩⟩
theorem zDE (F:Fn K mg "ranked" fT ["some"] f fd) (B:Bt mg) (KT:Kt K) (C:Ct K mg) (R:Rt K mg) (ET:Et K mg) {T:Addr} (hT:mZ K mg T) (hB:BMn base mg):CanR P w K mg base (k+1) gQ:=
 zHt F mI zEG hT hB B.sorted B.range B.len rfl fun cdv A outer s H E G W WR=>⟨(bI (i:=1) mI.nd rfl (Or.inr rfl) (aV aH fun _=>.int _)),(kQ W.own W.calm (iU (aB 0 (pv 0))) (eS (i:=2) mI.nd rfl (Or.inl rfl)) bX (aL (bI (i:=1) mI.nd rfl (Or.inr rfl) (bM cE hG (aB 1 (pv 1)) (aO aI bU (aB 2 (pv 2)) (aV aH fun _=>.int _) (fun _ _=>rfl))))))⟩
theorem vF (F:Fn K mg "refuse_way" jU ["way"] f fd) (B:Bt mg) (KT:Kt K) (C:Ct K mg) (R:Rt K mg) (ET:Et K mg)  : CanM P w K mg base (k+1) "refuse_way" ["way"] dE:=
 aU F uQ fun cdv A outer s H E G W WR=>(aL (iY (zFD C.CONTRARY.choose_spec rfl (aB 0 (pv 0)) (by with_unfolding_all rfl)) (aL (iE W WR R.BadWay rfl (aA (aV dO fun _=>.str _) aF bG))) bH))
theorem oV (F:Fn K mg "refuse_claims" gI ["claims"] f fd) (B:Bt mg) (KT:Kt K) (C:Ct K mg) (R:Rt K mg) (ET:Et K mg)  : CanM P w K mg base (k+1) "refuse_claims" ["claims"] dD:=
  aU F jK fun cdv A outer s H E G W WR=>(aG (iY (tst (eqA W.u) tT (aZ aR dX rfl B.len PySem.boot_len (aA (aB 0 (pv 0)) aF aD)) (aV aH fun _=>.int _) (bC _)) (aL (iE W WR R.BadClaim rfl (aA (aV dO fun _=>.str _) aF bG))) bH)
 (aL (kQ W.own W.calm (iU (aB 0 (pv 0))) (eS (i:=1) jK.nd rfl (Or.inl rfl)) bX (aL (iY (tst vU zGe (aB 1 (pv 1)) (aV aH fun _=>.int _) (bC _)) (aL (iE W WR R.BadClaim rfl (aA (aV dO fun _=>.str _) aF bG))) bH)))))
theorem oG (F:Fn K mg "refuse_weights" fR ["way", "weights", "many"] f fd) (B:Bt mg) (KT:Kt K) (C:Ct K mg) (R:Rt K mg) (ET:Et K mg)  : CanM P w K mg base (k+1) "refuse_weights" ["way", "weights", "many"] bJ:=
  aU F fA fun cdv A outer s H E G W WR=>(aG (bI (i:=3) fA.nd rfl (Or.inl rfl) (zJZ (tst (inA W.u) zNm (aB 0 (pv 0)) (cG rfl C.WEIGHTED) (by with_unfolding_all rfl)) (aB 2 (pv 2)) (aV aH fun _=>.int _)))
 (aG (iY (tst (neA W.u) zCT (aZ aR dX rfl B.len PySem.boot_len (aA (aB 1 (pv 1)) aF aD)) (aB 3 (pv 3)) (bC _)) (aL (iE W WR R.BadWeights rfl (aA (aV dO fun _=>.str _) aF bG))) bH)
 (aL (kQ W.own W.calm (iU (aB 1 (pv 1))) (eS (i:=4) fA.nd rfl (Or.inl rfl)) bX (aL (iY (PWd.pt (zCS (tst vU zGe (aB 4 (pv 4)) (aV aH fun _=>.int _) (bC _)) (qJ (tst zFJ zLC (aB 4 (pv 4)) (bM zDI zKi (aV aH fun _=>.int _) (aV aH fun _=>.int _)) (bC _))))) (aL (iE W WR R.BadWeights rfl (aA (aV dO fun _=>.str _) aF bG))) bH))))))
theorem sH (F:Fn K mg "_law_cell_at" iS ["script", "k"] f fd) (B:Bt mg) (KT:Kt K) (C:Ct K mg) (R:Rt K mg) (ET:Et K mg)  : CanM P w K mg base (k+1) "_law_cell_at" ["script", "k"] eR:=
  aU F sF fun cdv A outer s H E G W WR=>(aG (iY (tst vU zGe (aB 1 (pv 1)) (aZ aR dX rfl B.len PySem.boot_len (aA (aB 0 (pv 0)) aF aD)) (bC _)) (aL (dI (aO aI bU (aB 0 (pv 0)) (aB 1 (pv 1)) (fun _ _=>rfl)))) bH)
 (aL (dI (aV aH fun _=>.int _))))
theorem zAl (F:Fn K mg "_law_made" nK ["top", "bottom"] f fd) (B:Bt mg) (KT:Kt K) (C:Ct K mg) (R:Rt K mg) (ET:Et K mg)  : CanM P w K mg base (k+1) "_law_made" ["top", "bottom"] dL:=
  aU F dW fun cdv A outer s H E G W WR=>(aG (bI (i:=2) dW.nd rfl (Or.inl rfl) (aZ pJ zBH rfl B.abs boot_abs (aA (aB 0 (pv 0)) aF aD)))
 (aG (bI (i:=3) dW.nd rfl (Or.inl rfl) (aZ pJ zBH rfl B.abs boot_abs (aA (aB 1 (pv 1)) aF aD)))
 (aG (zFe W.own (tst zFJ zLC (aB 3 (pv 3)) (aV aH fun _=>.int _) (bC _)) (aG (bI (i:=4) dW.nd rfl (Or.inl rfl) (bM iQ wI (aB 2 (pv 2)) (aB 3 (pv 3))))
 (aG (bI (i:=2) dW.nd rfl (Or.inl rfl) (aB 3 (pv 3)))
 (aL (bI (i:=3) dW.nd rfl (Or.inl rfl) (aB 4 (pv 4)))))))
 (aG (iY (tst vU zGe (aB 1 (pv 1)) (aV aH fun _=>.int _) (bC _)) (aL (bI (i:=2) dW.nd rfl (Or.inl rfl) (bM oK xN (aV aH fun _=>.int _) (aB 2 (pv 2))))) bH)
 (aL (dI (cO (aA (bM jT zAh (aB 0 (pv 0)) (aB 2 (pv 2))) (aA (bM jT zAh (aB 1 (pv 1)) (aB 2 (pv 2))) aF bK) bK))))))))
theorem zAf (F:Fn K mg "_law_less" oF ["one", "two"] f fd) (B:Bt mg) (KT:Kt K) (C:Ct K mg) (R:Rt K mg) (ET:Et K mg)  : CanM P w K mg base (k+1) "_law_less" ["one", "two"] gA:=
 aU F zAO fun cdv A outer s H E G W WR=>(aL (dI (nA vU zGe (bM cE hG (aO aI bU (aB 0 (pv 0)) (aV aH fun _=>.int _) (fun _ _=>rfl)) (aO aI bU (aB 1 (pv 1)) (aV aH fun _=>.int _) (fun _ _=>rfl))) (bM cE hG (aO aI bU (aB 1 (pv 1)) (aV aH fun _=>.int _) (fun _ _=>rfl)) (aO aI bU (aB 0 (pv 0)) (aV aH fun _=>.int _) (fun _ _=>rfl))) (bC _))))
theorem wX (F:Fn K mg "_law_claims" jQ ["cells", "plan"] f fd) (B:Bt mg) (KT:Kt K) (C:Ct K mg) (R:Rt K mg) (ET:Et K mg)  : CanM P w K mg base (k+1) "_law_claims" ["cells", "plan"] fN:=
  aU F fZ fun cdv A outer s H E G W WR=>(aG (rJ (i:=2) fZ.nd rfl (Or.inl rfl) (dJ aF))
 (aG (kQ W.own W.calm (iU (aB 0 (pv 0))) (eS (i:=3) fZ.nd rfl (Or.inl rfl)) bX (aG (bI (i:=4) fZ.nd rfl (Or.inl rfl) (bM iQ wI (bM lE zBb (bM cE hG (aB 3 (pv 3)) (aV aH fun _=>.int _)) (aV aH fun _=>.int _)) (aV aH fun _=>.int _)))
 (aL (tL (i:=2) (pv 2) (aO aI bU (PEf.d (dJ (aA (bM iQ wI (bM jT zAh (aB 4 (pv 4)) (aV aH fun _=>.int _)) (aV aH fun _=>.int _)) (aA (bM iQ wI (bM jT zAh (aB 4 (pv 4)) (aV aH fun _=>.int _)) (aV aH fun _=>.int _)) (aA (bM iQ wI (aB 3 (pv 3)) (bM zDI zKi (aV aH fun _=>.int _) (aV aH fun _=>.int _))) aF bK) bK) bK))) (aO aI bU (PEf.d (dJ (aA (aV aH fun _=>.int _) (aA (aV aH fun _=>.int _) (aA (aV aH fun _=>.int _) (aA (aV aH fun _=>.int _) aF bG) bG) bG) bG))) (bM iQ wI (aB 1 (pv 1)) (aV aH fun _=>.int _)) (fun _ _=>rfl)) (fun _ _=>rfl))))))
 (aL (jB 2 (pv 2)))))
theorem zIO (F:Fn K mg "made" zEf ["top", "bottom"] f fd) (B:Bt mg) (KT:Kt K) (C:Ct K mg) (R:Rt K mg) (ET:Et K mg) (c_common_divisor:CanM P w K mg base k "common_divisor" ["one", "two"] cV):CanM P w K mg base (k+1) "made" ["top", "bottom"] gN:=
  aU F zAZ fun cdv A outer s H E G W WR=>(aG (iY (tst (eqA W.u) tT (aB 1 (pv 1)) (aV aH fun _=>.int _) (bC _)) (aL (iE W WR R.NoFraction rfl (aA (aV dO fun _=>.str _) aF bG))) bH)
 (aG (bI (i:=2) zAZ.nd rfl (Or.inl rfl) (aM W c_common_divisor rfl (aA (aB 0 (pv 0)) (aA (aB 1 (pv 1)) aF aD) aD)))
 (aG (iY (tst vU zGe (aB 1 (pv 1)) (aV aH fun _=>.int _) (bC _)) (aL (bI (i:=2) zAZ.nd rfl (Or.inl rfl) (uK (aB 2 (pv 2))))) bH)
 (aL (dI (cO (aA (bM jT zAh (aB 0 (pv 0)) (aB 2 (pv 2))) (aA (bM jT zAh (aB 1 (pv 1)) (aB 2 (pv 2))) aF bK) bK)))))))
theorem zEp (F:Fn K mg "lesser" uR ["one", "two"] f fd) (B:Bt mg) (KT:Kt K) (C:Ct K mg) (R:Rt K mg) (ET:Et K mg) (c_less:CanM P w K mg base k "less" ["one", "two"] iM):CanM P w K mg base (k+1) "lesser" ["one", "two"] iT:=
 aU F zEN fun cdv A outer s H E G W WR=>(aL (dI (zJZ (vE (aM W c_less rfl (aA (aB 0 (pv 0)) (aA (aB 1 (pv 1)) aF aD) aD))) (aB 0 (pv 0)) (aB 1 (pv 1)))))
theorem vK (F:Fn K mg "refuse_bad" kJ ["points"] f fd) (B:Bt mg) (KT:Kt K) (C:Ct K mg) (R:Rt K mg) (ET:Et K mg) (c_less:CanM P w K mg base k "less" ["one", "two"] iM):CanM P w K mg base (k+1) "refuse_bad" ["points"] fH:=
  aU F fU fun cdv A outer s H E G W WR=>(aG (iY (tst (eqA W.u) tT (aZ aR dX rfl B.len PySem.boot_len (aA (aB 0 (pv 0)) aF aD)) (aV aH fun _=>.int _) (bC _)) (aL (iE W WR R.BadLine rfl (aA (aV dO fun _=>.str _) aF bG))) bH)
 (aG (iY (tst (neA W.u) zCT (aO aI bU (aB 0 (pv 0)) (aV aH fun _=>.int _) (fun _ _=>rfl)) (cO (aA (cG rfl C.NOUGHT) (aA (cG rfl C.NOUGHT) aF aD) aD)) (bC _)) (aL (iE W WR R.BadLine rfl (aA (aV dO fun _=>.str _) aF bG))) bH)
 (aL (kQ W.own W.calm (zEi rfl B.range (aA (aV aH fun _=>.int _) (aA (aZ aR dX rfl B.len PySem.boot_len (aA (aB 0 (pv 0)) aF aD)) aF aT) bG)) (eS (i:=1) fU.nd rfl (Or.inl rfl)) bX (aG (bI (i:=2) fU.nd rfl (Or.inl rfl) (aO aI bU (aB 0 (pv 0)) (bM oK xN (aB 1 (pv 1)) (aV aH fun _=>.int _)) (fun _ _=>rfl)))
 (aG (bI (i:=3) fU.nd rfl (Or.inl rfl) (aO aI bU (aB 0 (pv 0)) (aB 1 (pv 1)) (fun _ _=>rfl)))
 (aG (iY (zCI (vE (aM W c_less rfl (aA (aO aI bU (aB 2 (pv 2)) (cG rfl C.ACROSS) (fun _ _=>rfl)) (aA (aO aI bU (aB 3 (pv 3)) (cG rfl C.ACROSS) (fun _ _=>rfl)) aF aQ) aQ)))) (aL (iE W WR R.BadLine rfl (aA (aV dO fun _=>.str _) aF bG))) bH)
 (aL (iY (vE (aM W c_less rfl (aA (aO aI bU (aB 3 (pv 3)) (cG rfl C.UP) (fun _ _=>rfl)) (aA (aO aI bU (aB 2 (pv 2)) (cG rfl C.UP) (fun _ _=>rfl)) aF aQ) aQ))) (aL (iE W WR R.BadLine rfl (aA (aV dO fun _=>.str _) aF bG))) bH)))))))))
theorem zES (F:Fn K mg "looked" uY ["way", "weights", "claims"] f fd) (B:Bt mg) (KT:Kt K) (C:Ct K mg) (R:Rt K mg) (ET:Et K mg) (c_refuse_way:CanM P w K mg base k "refuse_way" ["way"] dE) (c_refuse_claims:CanM P w K mg base k "refuse_claims" ["claims"] dD) (c_refuse_weights:CanM P w K mg base k "refuse_weights" ["way", "weights", "many"] bJ):CanM P w K mg base (k+1) "looked" ["way", "weights", "claims"] nH:=
  aU F zET fun cdv A outer s H E G W WR=>(aG (uH (aM W c_refuse_way rfl (aA (aB 0 (pv 0)) aF aD)))
 (aG (uH (aM W c_refuse_claims rfl (aA (aB 2 (pv 2)) aF aD)))
 (aL (uH (aM W c_refuse_weights rfl (aA (aB 0 (pv 0)) (aA (aB 1 (pv 1)) (aA (aZ aR dX rfl B.len PySem.boot_len (aA (aB 2 (pv 2)) aF aD)) aF aT) aD) aD))))))
theorem qP (F:Fn K mg "contrary_way" iB ["way"] f fd) (B:Bt mg) (KT:Kt K) (C:Ct K mg) (R:Rt K mg) (ET:Et K mg) (c_refuse_way:CanM P w K mg base k "refuse_way" ["way"] dE):CanM P w K mg base (k+1) "contrary_way" ["way"] cX:=
  aU F pT fun cdv A outer s H E G W WR=>(aG (uH (aM W c_refuse_way rfl (aA (aB 0 (pv 0)) aF aD)))
 (aL (dI (zGS C.CONTRARY.choose_spec rfl (aB 0 (pv 0)) (fun _ _=>rfl)))))
theorem wD (F:Fn K mg "row_joints" kK ["claims"] f fd) (B:Bt mg) (KT:Kt K) (C:Ct K mg) (R:Rt K mg) (ET:Et K mg) (c_whole:CanM P w K mg base k "whole" ["number"] bP):CanM P w K mg base (k+1) "row_joints" ["claims"] eE:=
  aU F eT fun cdv A outer s H E G W WR=>(aG (bI (i:=1) eT.nd rfl (Or.inl rfl) (aV aH fun _=>.int _))
 (aG (rJ (i:=2) eT.nd rfl (Or.inl rfl) (dJ (aA (cG rfl C.NOUGHT) aF aD)))
 (aG (kQ W.own W.calm (iU (aB 0 (pv 0))) (eS (i:=3) eT.nd rfl (Or.inl rfl)) bX (aG (zFW (i:=1) eT.nd rfl (Or.inl rfl) (aB 3 (pv 3)) zGQ zDw zBu)
 (aL (tL (i:=2) (pv 2) (aM W c_whole rfl (aA (aB 1 (pv 1)) aF aD))))))
 (aL (jB 2 (pv 2))))))
theorem mB (F:Fn K mg "without_doubles" fF ["joints"] f fd) (B:Bt mg) (KT:Kt K) (C:Ct K mg) (R:Rt K mg) (ET:Et K mg) (c_less:CanM P w K mg base k "less" ["one", "two"] iM):CanM P w K mg base (k+1) "without_doubles" ["joints"] cN:=
  aU F eU fun cdv A outer s H E G W WR=>(aG (rJ (i:=1) eU.nd rfl (Or.inl rfl) (zCe (aB 0 (pv 0)) zHx (zAs (aV aH fun _=>.int _))))
 (aG (kQ W.own W.calm (iU (aB 0 (pv 0))) (eS (i:=2) eU.nd rfl (Or.inl rfl)) bX (aL (iY (PTd.frz (vE (aM W c_less rfl (aA (aO aI bU (aB 1 (pv 1)) (uK (aV aH fun _=>.int _)) (fun _ _=>rfl)) (aA (aB 2 (pv 2)) aF aD) aQ)))) (aL (tL (i:=1) (pv 1) (aB 2 (pv 2)))) bH)))
 (aL (jB 1 (pv 1)))))
theorem zP (F:Fn K mg "_law_minus" lQ ["one", "two"] f fd) (B:Bt mg) (KT:Kt K) (C:Ct K mg) (R:Rt K mg) (ET:Et K mg) (c_law_made:CanM P w K mg base k "_law_made" ["top", "bottom"] dL):CanM P w K mg base (k+1) "_law_minus" ["one", "two"] dB:=
 aU F zK fun cdv A outer s H E G W WR=>(aL (dI (aM W c_law_made rfl (aA (bM oK xN (bM cE hG (aO aI bU (aB 0 (pv 0)) (aV aH fun _=>.int _) (fun _ _=>rfl)) (aO aI bU (aB 1 (pv 1)) (aV aH fun _=>.int _) (fun _ _=>rfl))) (bM cE hG (aO aI bU (aB 1 (pv 1)) (aV aH fun _=>.int _) (fun _ _=>rfl)) (aO aI bU (aB 0 (pv 0)) (aV aH fun _=>.int _) (fun _ _=>rfl)))) (aA (bM cE hG (aO aI bU (aB 0 (pv 0)) (aV aH fun _=>.int _) (fun _ _=>rfl)) (aO aI bU (aB 1 (pv 1)) (aV aH fun _=>.int _) (fun _ _=>rfl))) aF bK) bK))))
theorem xY (F:Fn K mg "_law_times" lX ["one", "two"] f fd) (B:Bt mg) (KT:Kt K) (C:Ct K mg) (R:Rt K mg) (ET:Et K mg) (c_law_made:CanM P w K mg base k "_law_made" ["top", "bottom"] dL):CanM P w K mg base (k+1) "_law_times" ["one", "two"] eZ:=
 aU F xM fun cdv A outer s H E G W WR=>(aL (dI (aM W c_law_made rfl (aA (bM cE hG (aO aI bU (aB 0 (pv 0)) (aV aH fun _=>.int _) (fun _ _=>rfl)) (aO aI bU (aB 1 (pv 1)) (aV aH fun _=>.int _) (fun _ _=>rfl))) (aA (bM cE hG (aO aI bU (aB 0 (pv 0)) (aV aH fun _=>.int _) (fun _ _=>rfl)) (aO aI bU (aB 1 (pv 1)) (aV aH fun _=>.int _) (fun _ _=>rfl))) aF bK) bK))))
theorem lZ (F:Fn K mg "_law_is_fraction" eY ["found"] f fd) (B:Bt mg) (KT:Kt K) (C:Ct K mg) (R:Rt K mg) (ET:Et K mg) (c_law_made:CanM P w K mg base k "_law_made" ["top", "bottom"] dL):CanM P w K mg base (k+1) "_law_is_fraction" ["found"] cB:=
  aU F gP fun cdv A outer s H E G W WR=>(aG (iY (PWd.pt (zCS (zCI (vE (tZ KT.tuple rfl B.isinstance (aB 0 (pv 0)) (nY (v:=.ty "tuple") rfl B.tuple boot_tuple rfl)))) (qJ (tst (neA W.u) zCT (aZ aR dX rfl B.len PySem.boot_len (aA (aB 0 (pv 0)) aF aD)) (aV aH fun _=>.int _) (bC _))))) (aL (dI (aV oW fun _=>.bl _))) bH)
 (aG (kQ W.own W.calm (iU (aB 0 (pv 0))) (eS (i:=1) gP.nd rfl (Or.inl rfl)) bX (aL (iY (PWd.pt (zCS (zCI (vE (tZ KT.int rfl B.isinstance (aB 1 (pv 1)) (nY (v:=.ty "int") rfl B.int boot_int rfl)))) (qJ (vE (tZ KT.bool rfl B.isinstance (aB 1 (pv 1)) (nY (v:=.ty "bool") rfl B.bool boot_bool rfl)))))) (aL (dI (aV oW fun _=>.bl _))) bH)))
 (aL (dI (zGG (nA zFJ zLC (aO aI bU (aB 0 (pv 0)) (aV aH fun _=>.int _) (fun _ _=>rfl)) (aV aH fun _=>.int _) (bC _)) (zGu (nA (eqA W.u) tT (aM W c_law_made rfl (aA (aO aI bU (aB 0 (pv 0)) (aV aH fun _=>.int _) (fun _ _=>rfl)) (aA (aO aI bU (aB 0 (pv 0)) (aV aH fun _=>.int _) (fun _ _=>rfl)) aF aQ) aQ)) (aB 0 (pv 0)) (bC _))))))))
theorem zHK (F:Fn K mg "plus" zDA ["one", "two"] f fd) (B:Bt mg) (KT:Kt K) (C:Ct K mg) (R:Rt K mg) (ET:Et K mg) (c_made:CanM P w K mg base k "made" ["top", "bottom"] gN):CanM P w K mg base (k+1) "plus" ["one", "two"] kW:=
 aU F zIA fun cdv A outer s H E G W WR=>(aL (dI (aM W c_made rfl (aA (bM lE zBb (bM cE hG (aO aI bU (aB 0 (pv 0)) (aV aH fun _=>.int _) (fun _ _=>rfl)) (aO aI bU (aB 1 (pv 1)) (aV aH fun _=>.int _) (fun _ _=>rfl))) (bM cE hG (aO aI bU (aB 1 (pv 1)) (aV aH fun _=>.int _) (fun _ _=>rfl)) (aO aI bU (aB 0 (pv 0)) (aV aH fun _=>.int _) (fun _ _=>rfl)))) (aA (bM cE hG (aO aI bU (aB 0 (pv 0)) (aV aH fun _=>.int _) (fun _ _=>rfl)) (aO aI bU (aB 1 (pv 1)) (aV aH fun _=>.int _) (fun _ _=>rfl))) aF bK) bK))))
theorem zGs (F:Fn K mg "minus" zBj ["one", "two"] f fd) (B:Bt mg) (KT:Kt K) (C:Ct K mg) (R:Rt K mg) (ET:Et K mg) (c_made:CanM P w K mg base k "made" ["top", "bottom"] gN):CanM P w K mg base (k+1) "minus" ["one", "two"] cY:=
 aU F zFC fun cdv A outer s H E G W WR=>(aL (dI (aM W c_made rfl (aA (bM oK xN (bM cE hG (aO aI bU (aB 0 (pv 0)) (aV aH fun _=>.int _) (fun _ _=>rfl)) (aO aI bU (aB 1 (pv 1)) (aV aH fun _=>.int _) (fun _ _=>rfl))) (bM cE hG (aO aI bU (aB 1 (pv 1)) (aV aH fun _=>.int _) (fun _ _=>rfl)) (aO aI bU (aB 0 (pv 0)) (aV aH fun _=>.int _) (fun _ _=>rfl)))) (aA (bM cE hG (aO aI bU (aB 0 (pv 0)) (aV aH fun _=>.int _) (fun _ _=>rfl)) (aO aI bU (aB 1 (pv 1)) (aV aH fun _=>.int _) (fun _ _=>rfl))) aF bK) bK))))
theorem zGk (F:Fn K mg "times" zAW ["one", "two"] f fd) (B:Bt mg) (KT:Kt K) (C:Ct K mg) (R:Rt K mg) (ET:Et K mg) (c_made:CanM P w K mg base k "made" ["top", "bottom"] gN):CanM P w K mg base (k+1) "times" ["one", "two"] dH:=
 aU F zFz fun cdv A outer s H E G W WR=>(aL (dI (aM W c_made rfl (aA (bM cE hG (aO aI bU (aB 0 (pv 0)) (aV aH fun _=>.int _) (fun _ _=>rfl)) (aO aI bU (aB 1 (pv 1)) (aV aH fun _=>.int _) (fun _ _=>rfl))) (aA (bM cE hG (aO aI bU (aB 0 (pv 0)) (aV aH fun _=>.int _) (fun _ _=>rfl)) (aO aI bU (aB 1 (pv 1)) (aV aH fun _=>.int _) (fun _ _=>rfl))) aF bK) bK))))
theorem zHU (F:Fn K mg "over" zFc ["one", "two"] f fd) (B:Bt mg) (KT:Kt K) (C:Ct K mg) (R:Rt K mg) (ET:Et K mg) (c_made:CanM P w K mg base k "made" ["top", "bottom"] gN):CanM P w K mg base (k+1) "over" ["one", "two"] qY:=
 aU F zJi fun cdv A outer s H E G W WR=>(aL (dI (aM W c_made rfl (aA (bM cE hG (aO aI bU (aB 0 (pv 0)) (aV aH fun _=>.int _) (fun _ _=>rfl)) (aO aI bU (aB 1 (pv 1)) (aV aH fun _=>.int _) (fun _ _=>rfl))) (aA (bM cE hG (aO aI bU (aB 0 (pv 0)) (aV aH fun _=>.int _) (fun _ _=>rfl)) (aO aI bU (aB 1 (pv 1)) (aV aH fun _=>.int _) (fun _ _=>rfl))) aF bK) bK))))
theorem zM (F:Fn K mg "levels_of" iW ["weights", "claims"] f fd) (B:Bt mg) (KT:Kt K) (C:Ct K mg) (R:Rt K mg) (ET:Et K mg) (c_made:CanM P w K mg base k "made" ["top", "bottom"] gN):CanM P w K mg base (k+1) "levels_of" ["weights", "claims"] cZ:=
 aU F yF fun cdv A outer s H E G W WR=>(aL (fS (mQ (N:=["weights", "claims"]) W (by decide +kernel) rfl (sc:=aJ iW) rfl rfl (by decide +kernel) (zFH rfl B.zip (aA (aB 1 (pv 1)) (aA (aB 0 (pv 0)) aF aD) aD)) (fun C2 s2 H2 fp2 G W=>(aM W c_made rfl (aA (aB 2 (pv 2)) (aA (aB 3 (pv 3)) aF aD) aD))))))
theorem wK (F:Fn K mg "_law_fewest" jV ["points"] f fd) (B:Bt mg) (KT:Kt K) (C:Ct K mg) (R:Rt K mg) (ET:Et K mg) (c_law_minus:CanM P w K mg base k "_law_minus" ["one", "two"] dB) (c_law_times:CanM P w K mg base k "_law_times" ["one", "two"] eZ):CanM P w K mg base (k+1) "_law_fewest" ["points"] dF:=
  aU F bV fun cdv A outer s H E G W WR=>(aG (rJ (i:=1) bV.nd rfl (Or.inl rfl) (dJ (aA (aO aI bU (aB 0 (pv 0)) (aV aH fun _=>.int _) (fun _ _=>rfl)) aF aQ)))
 (aG (kQ W.own W.calm (zEi rfl B.range (aA (aV aH fun _=>.int _) (aA (aZ aR dX rfl B.len PySem.boot_len (aA (aB 0 (pv 0)) aF aD)) aF aT) bG)) (eS (i:=2) bV.nd rfl (Or.inl rfl)) bX (aG (bI (i:=3) bV.nd rfl (Or.inl rfl) (aV oW fun _=>.bl _))
 (aG (iY (tst vU zGe (bM lE zBb (aB 2 (pv 2)) (aV aH fun _=>.int _)) (aZ aR dX rfl B.len PySem.boot_len (aA (aB 0 (pv 0)) aF aD)) (bC _)) (aG (bI (i:=4) bV.nd rfl (Or.inl rfl) (aM W c_law_minus rfl (aA (aO aI bU (aO aI bU (aB 0 (pv 0)) (aB 2 (pv 2)) (fun _ _=>rfl)) (aV aH fun _=>.int _) (fun _ _=>rfl)) (aA (aO aI bU (aO aI bU (aB 0 (pv 0)) (bM oK xN (aB 2 (pv 2)) (aV aH fun _=>.int _)) (fun _ _=>rfl)) (aV aH fun _=>.int _) (fun _ _=>rfl)) aF aQ) aQ)))
 (aG (bI (i:=5) bV.nd rfl (Or.inl rfl) (aM W c_law_minus rfl (aA (aO aI bU (aO aI bU (aB 0 (pv 0)) (aB 2 (pv 2)) (fun _ _=>rfl)) (aV aH fun _=>.int _) (fun _ _=>rfl)) (aA (aO aI bU (aO aI bU (aB 0 (pv 0)) (bM oK xN (aB 2 (pv 2)) (aV aH fun _=>.int _)) (fun _ _=>rfl)) (aV aH fun _=>.int _) (fun _ _=>rfl)) aF aQ) aQ)))
 (aG (bI (i:=6) bV.nd rfl (Or.inl rfl) (aM W c_law_minus rfl (aA (aO aI bU (aO aI bU (aB 0 (pv 0)) (bM lE zBb (aB 2 (pv 2)) (aV aH fun _=>.int _)) (fun _ _=>rfl)) (aV aH fun _=>.int _) (fun _ _=>rfl)) (aA (aO aI bU (aO aI bU (aB 0 (pv 0)) (aB 2 (pv 2)) (fun _ _=>rfl)) (aV aH fun _=>.int _) (fun _ _=>rfl)) aF aQ) aQ)))
 (aG (bI (i:=7) bV.nd rfl (Or.inl rfl) (aM W c_law_minus rfl (aA (aO aI bU (aO aI bU (aB 0 (pv 0)) (bM lE zBb (aB 2 (pv 2)) (aV aH fun _=>.int _)) (fun _ _=>rfl)) (aV aH fun _=>.int _) (fun _ _=>rfl)) (aA (aO aI bU (aO aI bU (aB 0 (pv 0)) (aB 2 (pv 2)) (fun _ _=>rfl)) (aV aH fun _=>.int _) (fun _ _=>rfl)) aF aQ) aQ)))
 (aL (bI (i:=3) bV.nd rfl (Or.inl rfl) (nA (eqA W.u) tT (aM W c_law_times rfl (aA (aB 5 (pv 5)) (aA (aB 6 (pv 6)) aF aD) aD)) (aM W c_law_times rfl (aA (aB 7 (pv 7)) (aA (aB 4 (pv 4)) aF aD) aD)) (bC _)))))))) bH)
 (aL (iY (zCI (vE (aB 3 (pv 3)))) (aL (tL (i:=1) (pv 1) (aO aI bU (aB 0 (pv 0)) (aB 2 (pv 2)) (fun _ _=>rfl)))) bH)))))
 (aL (dI (qI jA zEU rfl B.tuple boot_tuple (aA (aB 1 (pv 1)) aF aD))))))
theorem vJ (F:Fn K mg "is_between" jY ["ahead", "point", "later"] f fd) (B:Bt mg) (KT:Kt K) (C:Ct K mg) (R:Rt K mg) (ET:Et K mg) (c_minus:CanM P w K mg base k "minus" ["one", "two"] cY) (c_times:CanM P w K mg base k "times" ["one", "two"] dH):CanM P w K mg base (k+1) "is_between" ["ahead", "point", "later"] fM:=
  aU F eP fun cdv A outer s H E G W WR=>(aG (bI (i:=3) eP.nd rfl (Or.inl rfl) (aM W c_minus rfl (aA (aO aI bU (aB 1 (pv 1)) (cG rfl C.UP) (fun _ _=>rfl)) (aA (aO aI bU (aB 0 (pv 0)) (cG rfl C.UP) (fun _ _=>rfl)) aF aQ) aQ)))
 (aG (bI (i:=4) eP.nd rfl (Or.inl rfl) (aM W c_minus rfl (aA (aO aI bU (aB 2 (pv 2)) (cG rfl C.UP) (fun _ _=>rfl)) (aA (aO aI bU (aB 1 (pv 1)) (cG rfl C.UP) (fun _ _=>rfl)) aF aQ) aQ)))
 (aG (bI (i:=5) eP.nd rfl (Or.inl rfl) (aM W c_minus rfl (aA (aO aI bU (aB 1 (pv 1)) (cG rfl C.ACROSS) (fun _ _=>rfl)) (aA (aO aI bU (aB 0 (pv 0)) (cG rfl C.ACROSS) (fun _ _=>rfl)) aF aQ) aQ)))
 (aG (bI (i:=6) eP.nd rfl (Or.inl rfl) (aM W c_minus rfl (aA (aO aI bU (aB 2 (pv 2)) (cG rfl C.ACROSS) (fun _ _=>rfl)) (aA (aO aI bU (aB 1 (pv 1)) (cG rfl C.ACROSS) (fun _ _=>rfl)) aF aQ) aQ)))
 (aL (dI (nA (eqA W.u) tT (aM W c_times rfl (aA (aB 3 (pv 3)) (aA (aB 6 (pv 6)) aF aD) aD)) (aM W c_times rfl (aA (aB 4 (pv 4)) (aA (aB 5 (pv 5)) aF aD) aD)) (bC _))))))))
theorem yA (F:Fn K mg "row_dealt" lU ["claims", "catch"] f fd) (B:Bt mg) (KT:Kt K) (C:Ct K mg) (R:Rt K mg) (ET:Et K mg) (c_lesser:CanM P w K mg base k "lesser" ["one", "two"] iT) (c_minus:CanM P w K mg base k "minus" ["one", "two"] cY) (c_whole:CanM P w K mg base k "whole" ["number"] bP):CanM P w K mg base (k+1) "row_dealt" ["claims", "catch"] fE:=
  aU F dY fun cdv A outer s H E G W WR=>(aG (bI (i:=2) dY.nd rfl (Or.inl rfl) (aB 1 (pv 1)))
 (aG (rJ (i:=3) dY.nd rfl (Or.inl rfl) (dJ aF))
 (aG (kQ W.own W.calm (iU (aB 0 (pv 0))) (eS (i:=4) dY.nd rfl (Or.inl rfl)) bX (aG (bI (i:=5) dY.nd rfl (Or.inl rfl) (aM W c_lesser rfl (aA (aB 2 (pv 2)) (aA (aM W c_whole rfl (aA (aB 4 (pv 4)) aF aD)) aF aT) aD)))
 (aG (tL (i:=3) (pv 3) (aB 5 (pv 5)))
 (aL (bI (i:=2) dY.nd rfl (Or.inl rfl) (aM W c_minus rfl (aA (aB 2 (pv 2)) (aA (aB 5 (pv 5)) aF aD) aD)))))))
 (aL (jB 3 (pv 3))))))
theorem wJ (F:Fn K mg "even_dealt" kE ["weights", "claims", "catch"] f fd) (B:Bt mg) (KT:Kt K) (C:Ct K mg) (R:Rt K mg) (ET:Et K mg) (c_ranked:CanR P w K mg base k gQ) (c_levels_of:CanM P w K mg base k "levels_of" ["weights", "claims"] cZ) (c_over:CanM P w K mg base k "over" ["one", "two"] qY) (c_lesser:CanM P w K mg base k "lesser" ["one", "two"] iT) (c_minus:CanM P w K mg base k "minus" ["one", "two"] cY) (c_times:CanM P w K mg base k "times" ["one", "two"] dH) (c_whole:CanM P w K mg base k "whole" ["number"] bP):CanM P w K mg base (k+1) "even_dealt" ["weights", "claims", "catch"] cP:=
  aU F cH fun cdv A outer s H E G W WR=>(aG (bI (i:=3) cH.nd rfl (Or.inl rfl) (aB 2 (pv 2)))
 (aG (bI (i:=4) cH.nd rfl (Or.inl rfl) (aZ (gU W.calm) oJ rfl B.sum fO (aA (aB 0 (pv 0)) aF aD)))
 (aG (rJ (i:=5) cH.nd rfl (Or.inl rfl) (zBp (dJ (aA (cG rfl C.NOUGHT) aF aD)) (aZ aR dX rfl B.len PySem.boot_len (aA (aB 1 (pv 1)) aF aD))))
 (zDh W c_ranked zKJ zHg rfl (aA (PEf.d (bQ W c_levels_of rfl (aA (aB 0 (pv 0)) (aA (aB 1 (pv 1)) aF aD) aD))) aF aT) (eS (i:=6) cH.nd rfl (Or.inl rfl)) bX (aG (bI (i:=7) cH.nd rfl (Or.inl rfl) (aM W c_over rfl (aA (aM W c_times rfl (aA (aB 3 (pv 3)) (aA (aM W c_whole rfl (aA (aO aI bU (aB 0 (pv 0)) (aB 6 (pv 6)) (fun _ _=>rfl)) aF aQ)) aF aT) aD)) (aA (aM W c_whole rfl (aA (aB 4 (pv 4)) aF aD)) aF aT) aT)))
 (aG (zLG (i:=5) (pv 5) (aB 6 (pv 6)) (aM W c_lesser rfl (aA (aB 7 (pv 7)) (aA (aM W c_whole rfl (aA (aO aI bU (aB 1 (pv 1)) (aB 6 (pv 6)) (fun _ _=>rfl)) aF aQ)) aF aT) aD)))
 (aG (bI (i:=3) cH.nd rfl (Or.inl rfl) (PEd.frz (aM W c_minus rfl (aA (aB 3 (pv 3)) (aA (aO aI bU (aB 5 (pv 5)) (aB 6 (pv 6)) (fun _ _=>rfl)) aF aQ) aD))))
 (aL (zFW (i:=4) cH.nd rfl (Or.inl rfl) (aO aI bU (aB 0 (pv 0)) (aB 6 (pv 6)) (fun _ _=>rfl)) zGX zEW zCc))))) (aL (jB 5 (pv 5)))))))
theorem vG (F:Fn K mg "part_dealt" gT ["claims", "catch"] f fd) (B:Bt mg) (KT:Kt K) (C:Ct K mg) (R:Rt K mg) (ET:Et K mg) (c_over:CanM P w K mg base k "over" ["one", "two"] qY) (c_whole:CanM P w K mg base k "whole" ["number"] bP) (c_times:CanM P w K mg base k "times" ["one", "two"] dH):CanM P w K mg base (k+1) "part_dealt" ["claims", "catch"] eG:=
  aU F fX fun cdv A outer s H E G W WR=>(aG (bI (i:=2) fX.nd rfl (Or.inl rfl) (aZ (gU W.calm) oJ rfl B.sum fO (aA (aB 0 (pv 0)) aF aD)))
 (aG (iY (tst (eqA W.u) tT (aB 2 (pv 2)) (aV aH fun _=>.int _) (bC _)) (aL (fS (zBp (dJ (aA (cG rfl C.NOUGHT) aF aD)) (aZ aR dX rfl B.len PySem.boot_len (aA (aB 0 (pv 0)) aF aD))))) bH)
 (aG (bI (i:=3) fX.nd rfl (Or.inr rfl) (aM W c_over rfl (aA (aB 1 (pv 1)) (aA (aM W c_whole rfl (aA (aB 2 (pv 2)) aF aD)) aF aT) aD)))
 (aL (fS (kM W fX.nd rfl (sc:=aJ gT) rfl rfl (by decide +kernel) (iU (aB 0 (pv 0))) (fun C2 s2 H2 fp2 G W=>⟨rT,(aM W c_times rfl (aA (aB 3 (pv 3)) (aA (aM W c_whole rfl (aA (aB 4 (pv 4)) aF aD)) aF aT) aD))⟩)))))))
theorem tK (F:Fn K mg "even_joints" iV ["weights", "claims"] f fd) (B:Bt mg) (KT:Kt K) (C:Ct K mg) (R:Rt K mg) (ET:Et K mg) (c_levels_of:CanM P w K mg base k "levels_of" ["weights", "claims"] cZ) (c_ranked:CanR P w K mg base k gQ) (c_plus:CanM P w K mg base k "plus" ["one", "two"] kW) (c_whole:CanM P w K mg base k "whole" ["number"] bP) (c_times:CanM P w K mg base k "times" ["one", "two"] dH):CanM P w K mg base (k+1) "even_joints" ["weights", "claims"] cT:=
  aU F bY fun cdv A outer s H E G W WR=>(aG (bI (i:=2) bY.nd rfl (Or.inl rfl) (aV aH fun _=>.int _))
 (aG (bI (i:=3) bY.nd rfl (Or.inl rfl) (aZ (gU W.calm) oJ rfl B.sum fO (aA (aB 0 (pv 0)) aF aD)))
 (aG (bI (i:=4) bY.nd rfl (Or.inl rfl) (PEf.d (bQ W c_levels_of rfl (aA (aB 0 (pv 0)) (aA (aB 1 (pv 1)) aF aD) aD))))
 (aG (rJ (i:=5) bY.nd rfl (Or.inl rfl) (dJ (aA (cG rfl C.NOUGHT) aF aD)))
 (zDh W c_ranked zKJ zHg rfl (aA (aB 4 (pv 4)) aF aD) (eS (i:=6) bY.nd rfl (Or.inl rfl)) bX (aG (tL (i:=5) (pv 5) (aM W c_plus rfl (aA (aM W c_whole rfl (aA (aB 2 (pv 2)) aF aD)) (aA (aM W c_times rfl (aA (aO aI bU (aB 4 (pv 4)) (aB 6 (pv 6)) (fun _ _=>rfl)) (aA (aM W c_whole rfl (aA (aB 3 (pv 3)) aF aD)) aF aT) aQ)) aF aT) aT)))
 (aG (zFW (i:=2) bY.nd rfl (Or.inl rfl) (aO aI bU (aB 1 (pv 1)) (aB 6 (pv 6)) (fun _ _=>rfl)) zGQ zDw zBu)
 (aL (zFW (i:=3) bY.nd rfl (Or.inl rfl) (aO aI bU (aB 0 (pv 0)) (aB 6 (pv 6)) (fun _ _=>rfl)) zGX zEW zCc)))) (aL (jB 5 (pv 5))))))))
theorem zAX (F:Fn K mg "mirrored" kN ["joints", "most"] f fd) (B:Bt mg) (KT:Kt K) (C:Ct K mg) (R:Rt K mg) (ET:Et K mg) (c_minus:CanM P w K mg base k "minus" ["one", "two"] cY):CanM P w K mg base (k+1) "mirrored" ["joints", "most"] fG:=
 aU F qH fun cdv A outer s H E G W WR=>(aL (fS (kM W qH.nd rfl (sc:=aJ kN) rfl rfl (by decide +kernel) (zLx rfl B.reversed (aB 0 (pv 0))) (fun C2 s2 H2 fp2 G W=>⟨rT,(aM W c_minus rfl (aA (aB 1 (pv 1)) (aA (aB 2 (pv 2)) aF aD) aD))⟩))))
theorem zAN (F:Fn K mg "_law_fine" nU ["found"] f fd) (B:Bt mg) (KT:Kt K) (C:Ct K mg) (R:Rt K mg) (ET:Et K mg) (c_law_fewest:CanM P w K mg base k "_law_fewest" ["points"] dF) (c_law_less:CanM P w K mg base k "_law_less" ["one", "two"] gA) (c_law_is_fraction:CanM P w K mg base k "_law_is_fraction" ["found"] cB):CanM P w K mg base (k+1) "_law_fine" ["found"] iK:=
  aU F lB fun cdv A outer s H E G W WR=>(aG (iY (PWd.pt (zCS (zCI (vE (tZ KT.tuple rfl B.isinstance (aB 0 (pv 0)) (nY (v:=.ty "tuple") rfl B.tuple boot_tuple rfl)))) (zCS (tst vU zGe (aZ aR dX rfl B.len PySem.boot_len (aA (aB 0 (pv 0)) aF aD)) (aV aH fun _=>.int _) (bC _)) (qJ (tst (neA W.u) zCT (aO aI bU (aB 0 (pv 0)) (aV aH fun _=>.int _) (fun _ _=>rfl)) (cO (aA (cO (aA (aV aH fun _=>.int _) (aA (aV aH fun _=>.int _) aF bG) bG)) (aA (cO (aA (aV aH fun _=>.int _) (aA (aV aH fun _=>.int _) aF bG) bG)) aF cJ) cJ)) (bC _)))))) (aL (dI (aV oW fun _=>.bl _))) bH)
 (aG (kQ W.own W.calm (iU (aB 0 (pv 0))) (eS (i:=1) lB.nd rfl (Or.inl rfl)) bX (aG (iY (PWd.pt (zCS (zCI (vE (tZ KT.tuple rfl B.isinstance (aB 1 (pv 1)) (nY (v:=.ty "tuple") rfl B.tuple boot_tuple rfl)))) (qJ (tst (neA W.u) zCT (aZ aR dX rfl B.len PySem.boot_len (aA (aB 1 (pv 1)) aF aD)) (aV aH fun _=>.int _) (bC _))))) (aL (dI (aV oW fun _=>.bl _))) bH)
 (aL (iY (PWd.pt (zCS (zCI (vE (aM W c_law_is_fraction rfl (aA (aO aI bU (aB 1 (pv 1)) (aV aH fun _=>.int _) (fun _ _=>rfl)) aF aQ)))) (qJ (zCI (vE (aM W c_law_is_fraction rfl (aA (aO aI bU (aB 1 (pv 1)) (aV aH fun _=>.int _) (fun _ _=>rfl)) aF aQ))))))) (aL (dI (aV oW fun _=>.bl _))) bH))))
 (aG (kQ W.own W.calm (zEi rfl B.range (aA (aV aH fun _=>.int _) (aA (aZ aR dX rfl B.len PySem.boot_len (aA (aB 0 (pv 0)) aF aD)) aF aT) bG)) (eS (i:=2) lB.nd rfl (Or.inl rfl)) bX (aL (iY (PWd.pt (zCS (zCI (vE (aM W c_law_less rfl (aA (aO aI bU (aO aI bU (aB 0 (pv 0)) (bM oK xN (aB 2 (pv 2)) (aV aH fun _=>.int _)) (fun _ _=>rfl)) (aV aH fun _=>.int _) (fun _ _=>rfl)) (aA (aO aI bU (aO aI bU (aB 0 (pv 0)) (aB 2 (pv 2)) (fun _ _=>rfl)) (aV aH fun _=>.int _) (fun _ _=>rfl)) aF aQ) aQ)))) (qJ (vE (aM W c_law_less rfl (aA (aO aI bU (aO aI bU (aB 0 (pv 0)) (aB 2 (pv 2)) (fun _ _=>rfl)) (aV aH fun _=>.int _) (fun _ _=>rfl)) (aA (aO aI bU (aO aI bU (aB 0 (pv 0)) (bM oK xN (aB 2 (pv 2)) (aV aH fun _=>.int _)) (fun _ _=>rfl)) (aV aH fun _=>.int _) (fun _ _=>rfl)) aF aQ) aQ)))))) (aL (dI (aV oW fun _=>.bl _))) bH)))
 (aL (dI (nA (eqA W.u) tT (aB 0 (pv 0)) (aM W c_law_fewest rfl (aA (aB 0 (pv 0)) aF aD)) (bC _)))))))
theorem sB (F:Fn K mg "_law_through" iR ["points"] f fd) (B:Bt mg) (KT:Kt K) (C:Ct K mg) (R:Rt K mg) (ET:Et K mg) (c_law_fewest:CanM P w K mg base k "_law_fewest" ["points"] dF):CanM P w K mg base (k+1) "_law_through" ["points"] cI:=
  aU F iG fun cdv A outer s H E G W WR=>(aG (rJ (i:=1) iG.nd rfl (Or.inl rfl) (dJ aF))
 (aG (kQ W.own W.calm (iU (aB 0 (pv 0))) (eS (i:=2) iG.nd rfl (Or.inl rfl)) bX (aL (iY (PTd.frz (PWd.pt (zCS (tst (eqA W.u) tT (aB 1 (pv 1)) (PEf.d (dJ aF)) (bC _)) (qJ (tst (neA W.u) zCT (aB 2 (pv 2)) (aO aI bU (aB 1 (pv 1)) (uK (aV aH fun _=>.int _)) (fun _ _=>rfl)) (bC _)))))) (aL (tL (i:=1) (pv 1) (aB 2 (pv 2)))) bH)))
 (aL (dI (aM W c_law_fewest rfl (aA (aB 1 (pv 1)) aF aD))))))
theorem zCw (F:Fn K mg "line_of" qS ["points"] f fd) (B:Bt mg) (KT:Kt K) (C:Ct K mg) (R:Rt K mg) (ET:Et K mg) (c_refuse_bad:CanM P w K mg base k "refuse_bad" ["points"] fH) (c_is_between:CanM P w K mg base k "is_between" ["ahead", "point", "later"] fM):CanM P w K mg base (k+1) "line_of" ["points"] kD:=
  aU F oD fun cdv A outer s H E G W WR=>(aG (uH (aM W c_refuse_bad rfl (aA (aB 0 (pv 0)) aF aD)))
 (aG (rJ (i:=1) oD.nd rfl (Or.inl rfl) (dJ aF))
 (aG (kQ W.own W.calm (iU (aB 0 (pv 0))) (eS (i:=2) oD.nd rfl (Or.inl rfl)) bX (aG (iY (PTd.frz (PWd.pt (zLh (tst zFJ zLC (aZ aR dX rfl B.len PySem.boot_len (aA (aB 1 (pv 1)) aF aD)) (aV aH fun _=>.int _) (bC _)) (zGT (vE (aM W c_is_between rfl (aA (aO aI bU (aB 1 (pv 1)) (uK (aV aH fun _=>.int _)) (fun _ _=>rfl)) (aA (aO aI bU (aB 1 (pv 1)) (uK (aV aH fun _=>.int _)) (fun _ _=>rfl)) (aA (aB 2 (pv 2)) aF aD) aQ) aQ))))))) (aL (zLP (i:=1) (pv 1))) bH)
 (aL (tL (i:=1) (pv 1) (aB 2 (pv 2))))))
 (aL (dI (qI jA zEU rfl B.tuple boot_tuple (aA (aB 1 (pv 1)) aF aD)))))))
theorem vN (F:Fn K mg "half_dealt" gZ ["claims", "catch"] f fd) (B:Bt mg) (KT:Kt K) (C:Ct K mg) (R:Rt K mg) (ET:Et K mg) (c_times:CanM P w K mg base k "times" ["one", "two"] dH) (c_even_dealt:CanM P w K mg base k "even_dealt" ["weights", "claims", "catch"] cP) (c_plus:CanM P w K mg base k "plus" ["one", "two"] kW):CanM P w K mg base (k+1) "half_dealt" ["claims", "catch"] eH:=
  aU F iO fun cdv A outer s H E G W WR=>(aG (bI (i:=2) iO.nd rfl (Or.inl rfl) (PEf.d (zBp (dJ (aA (aV aH fun _=>.int _) aF bG)) (aZ aR dX rfl B.len PySem.boot_len (aA (aB 0 (pv 0)) aF aD)))))
 (aL (fS (kM W iO.nd rfl (sc:=aJ gZ) rfl rfl (by decide +kernel) (iU (PEf.d (bQ W c_even_dealt rfl (aA (aB 2 (pv 2)) (aA (aB 0 (pv 0)) (aA (aM W c_plus rfl (aA (aB 1 (pv 1)) (aA (aB 1 (pv 1)) aF aD) aD)) aF aT) aD) aD)))) (fun C2 s2 H2 fp2 G W=>⟨rT,(aM W c_times rfl (aA (aB 3 (pv 3)) (aA (cG rfl C.HALF) aF aD) aD))⟩)))))
theorem pY (F:Fn K mg "_law_all_fine" iA ["found", "claims"] f fd) (B:Bt mg) (KT:Kt K) (C:Ct K mg) (R:Rt K mg) (ET:Et K mg) (c_law_fine:CanM P w K mg base k "_law_fine" ["found"] iK):CanM P w K mg base (k+1) "_law_all_fine" ["found", "claims"] dP:=
  aU F gM fun cdv A outer s H E G W WR=>(aG (iY (PWd.pt (zCS (zCI (vE (tZ KT.list rfl B.isinstance (aB 0 (pv 0)) (nY (v:=.ty "list") rfl B.list boot_list rfl)))) (qJ (tst (neA W.u) zCT (aZ aR dX rfl B.len PySem.boot_len (aA (aB 0 (pv 0)) aF aD)) (aZ aR dX rfl B.len PySem.boot_len (aA (aB 1 (pv 1)) aF aD)) (bC _))))) (aL (dI (aV oW fun _=>.bl _))) bH)
 (aG (kQ W.own W.calm (zFH rfl B.zip (aA (aB 0 (pv 0)) (aA (aB 1 (pv 1)) aF aD) aD)) (zLY W.calm (zDR (eS (i:=2) gM.nd rfl (Or.inl rfl)) (zDR (eS (i:=3) gM.nd rfl (Or.inl rfl)) zKB)) (zCY (zCY zKC))) (zIm (zBB bX (zBB bX zIv))) (aL (iY (PWd.pt (zCS (zCI (vE (aM W c_law_fine rfl (aA (aB 2 (pv 2)) aF aD)))) (qJ (tst (neA W.u) zCT (aO aI bU (aB 2 (pv 2)) (uK (aV aH fun _=>.int _)) (fun _ _=>rfl)) (cO (aA (cO (aA (aZ (gU W.calm) oJ rfl B.sum fO (aA (aB 1 (pv 1)) aF aD)) (aA (aV aH fun _=>.int _) aF bG) aT)) (aA (cO (aA (aB 3 (pv 3)) (aA (aV aH fun _=>.int _) aF bG) aD)) aF cJ) cJ)) (bC _))))) (aL (dI (aV oW fun _=>.bl _))) bH)))
 (aL (dI (aV oW fun _=>.bl _)))))
theorem zCR (F:Fn K mg "_law_row" mY ["claims"] f fd) (B:Bt mg) (KT:Kt K) (C:Ct K mg) (R:Rt K mg) (ET:Et K mg) (c_law_through:CanM P w K mg base k "_law_through" ["points"] cI):CanM P w K mg base (k+1) "_law_row" ["claims"] eO:=
  aU F gB fun cdv A outer s H E G W WR=>(aG (rJ (i:=1) gB.nd rfl (Or.inl rfl) (dJ aF))
 (aG (bI (i:=2) gB.nd rfl (Or.inl rfl) (aV aH fun _=>.int _))
 (aG (kQ W.own W.calm (iU (aB 0 (pv 0))) (eS (i:=3) gB.nd rfl (Or.inl rfl)) bX (aG (bI (i:=4) gB.nd rfl (Or.inl rfl) (PEf.d (dJ (aA (cO (aA (aV aH fun _=>.int _) (aA (aV aH fun _=>.int _) aF bG) bG)) (aA (cO (aA (aB 2 (pv 2)) (aA (aV aH fun _=>.int _) aF bG) aD)) (aA (cO (aA (bM lE zBb (aB 2 (pv 2)) (aB 3 (pv 3))) (aA (aB 3 (pv 3)) aF aD) bK)) (aA (cO (aA (aZ (gU W.calm) oJ rfl B.sum fO (aA (aB 0 (pv 0)) aF aD)) (aA (aB 3 (pv 3)) aF aD) aT)) aF cJ) cJ) cJ) cJ))))
 (aG (tL (i:=1) (pv 1) (aM W c_law_through rfl (aA (PEf.d (mQ (N:=["claims", "due", "ahead", "claim", "points"]) W (by decide +kernel) rfl (sc:=aJ mY) rfl rfl (by decide +kernel) (iU (aB 4 (pv 4))) (fun C2 s2 H2 fp2 G W=>(cO (aA (cO (aA (aB 5 (pv 5)) (aA (aV aH fun _=>.int _) aF bG) aD)) (aA (cO (aA (aB 6 (pv 6)) (aA (aV aH fun _=>.int _) aF bG) aD)) aF cJ) cJ))))) aF)))
 (aL (bI (i:=2) gB.nd rfl (Or.inl rfl) (bM lE zBb (aB 2 (pv 2)) (aB 3 (pv 3))))))))
 (aL (jB 1 (pv 1))))))
theorem zCu (F:Fn K mg "line_at" mH ["joints", "dealings", "spot"] f fd) (B:Bt mg) (KT:Kt K) (C:Ct K mg) (R:Rt K mg) (ET:Et K mg) (c_line_of:CanM P w K mg base k "line_of" ["points"] kD):CanM P w K mg base (k+1) "line_at" ["joints", "dealings", "spot"] jR:=
 aU F zCH fun cdv A outer s H E G W WR=>(aL (dI (aM W c_line_of rfl (aA (PEf.d (mQ (N:=["joints", "dealings", "spot"]) W (by decide +kernel) rfl (sc:=aJ mH) rfl rfl (by decide +kernel) (zFH rfl B.zip (aA (aB 0 (pv 0)) (aA (aB 1 (pv 1)) aF aD) aD)) (fun C2 s2 H2 fp2 G W=>(cO (aA (aB 3 (pv 3)) (aA (aO aI bU (aB 4 (pv 4)) (aB 2 (pv 2)) (fun _ _=>rfl)) aF aQ) aD))))) aF))))
theorem zU {r:Mir} (F:Fn K mg "joints_of" gJ ["way", "weights", "claims"] f fd) (B:Bt mg) (KT:Kt K) (C:Ct K mg) (R:Rt K mg) (ET:Et K mg) (c_whole:CanM P w K mg base k "whole" ["number"] bP) (c_mirrored:CanM P w K mg base k "mirrored" ["joints", "most"] fG) (c_row_joints:CanM P w K mg base k "row_joints" ["claims"] eE) (c_even_joints:CanM P w K mg base k "even_joints" ["weights", "claims"] cT) (c_times:CanM P w K mg base k "times" ["one", "two"] dH) (c_contrary_way:CanM P w K mg base k "contrary_way" ["way"] cX) (c_joints_of:CanM P w K mg base k "joints_of" ["way", "weights", "claims"] r):CanM P w K mg base (k+1) "joints_of" ["way", "weights", "claims"] (bT r):=
  aU F fL fun cdv A outer s H E G W WR=>(aG (bI (i:=3) fL.nd rfl (Or.inl rfl) (aM W c_whole rfl (aA (aZ (gU W.calm) oJ rfl B.sum fO (aA (aB 2 (pv 2)) aF aD)) aF aT)))
 (aG (iY (tst (eqA W.u) tT (aB 0 (pv 0)) (aV dO fun _=>.str _) (bC _)) (aL (fS (bQ W c_row_joints rfl (aA (aB 2 (pv 2)) aF aD)))) bH)
 (aG (iY (tst (eqA W.u) tT (aB 0 (pv 0)) (aV dO fun _=>.str _) (bC _)) (aL (fS (bQ W c_even_joints rfl (aA (aB 1 (pv 1)) (aA (aB 2 (pv 2)) aF aD) aD)))) bH)
 (aG (iY (tst (eqA W.u) tT (aB 0 (pv 0)) (aV dO fun _=>.str _) (bC _)) (aL (fS (dJ (aA (cG rfl C.NOUGHT) (aA (aB 3 (pv 3)) aF aD) aD)))) bH)
 (aG (iY (tst (eqA W.u) tT (aB 0 (pv 0)) (aV dO fun _=>.str _) (bC _)) (aG (zJO (i:=4) fL.nd rfl (Or.inl rfl) (PCf.d (zFP W fL.nd rfl (sc:=aJ gJ) rfl rfl (by decide +kernel) (iU (PEf.d (bQ W c_even_joints rfl (aA (PEf.d (zBp (dJ (aA (aV aH fun _=>.int _) aF bG)) (aZ aR dX rfl B.len PySem.boot_len (aA (aB 2 (pv 2)) aF aD)))) (aA (aB 2 (pv 2)) aF aD) bK)))) (fun C2 s2 H2 fp2 G W=>⟨rT,(aM W c_times rfl (aA (aB 5 (pv 5)) (aA (cG rfl C.HALF) aF aD) aD))⟩))) rfl)
 (aL (fS (zKe (aB 4 (pv 4)) (PEf.d (bQ W c_mirrored rfl (aA (aB 4 (pv 4)) (aA (aB 3 (pv 3)) aF aD) aD))))))) bH)
 (aL (fS (bQ W c_mirrored rfl (aA (PEf.d (bQ W c_joints_of rfl (aA (aM W c_contrary_way rfl (aA (aB 0 (pv 0)) aF aD)) (aA (aB 1 (pv 1)) (aA (aB 2 (pv 2)) aF aD) aD) aT))) (aA (aB 3 (pv 3)) aF aD) aT)))))))))
theorem oR (F:Fn K mg "joints_of" gJ ["way", "weights", "claims"] f fd) (B:Bt mg) (KT:Kt K) (C:Ct K mg) (R:Rt K mg) (ET:Et K mg) (c_whole:CanM P w K mg base k "whole" ["number"] bP) (c_mirrored:CanM P w K mg base k "mirrored" ["joints", "most"] fG) (c_row_joints:CanM P w K mg base k "row_joints" ["claims"] eE) (c_even_joints:CanM P w K mg base k "even_joints" ["weights", "claims"] cT) (c_times:CanM P w K mg base k "times" ["one", "two"] dH) (c_contrary_way:CanM P w K mg base k "contrary_way" ["way"] cX):∀ n:Nat,CanM P w K mg base (k+1+n) "joints_of" ["way", "weights", "claims"] (bD n)
 | 0=>aU F fL fun cdv A outer s H E G W WR=>zKD
 | n+1=>zU (k:=k+1+n) F B KT C R ET (c_whole:=c_whole.mono (by omega)) (c_mirrored:=c_mirrored.mono (by omega)) (c_row_joints:=c_row_joints.mono (by omega)) (c_even_joints:=c_even_joints.mono (by omega)) (c_times:=c_times.mono (by omega)) (c_contrary_way:=c_contrary_way.mono (by omega)) (c_joints_of:=oR F B KT C R ET (c_whole:=c_whole) (c_mirrored:=c_mirrored) (c_row_joints:=c_row_joints) (c_even_joints:=c_even_joints) (c_times:=c_times) (c_contrary_way:=c_contrary_way) n)
theorem oZ {r:Mir} (F:Fn K mg "rightly_dealt" dC ["way", "weights", "claims", "catch"] f fd) (B:Bt mg) (KT:Kt K) (C:Ct K mg) (R:Rt K mg) (ET:Et K mg) (c_whole:CanM P w K mg base k "whole" ["number"] bP) (c_row_dealt:CanM P w K mg base k "row_dealt" ["claims", "catch"] fE) (c_even_dealt:CanM P w K mg base k "even_dealt" ["weights", "claims", "catch"] cP) (c_part_dealt:CanM P w K mg base k "part_dealt" ["claims", "catch"] eG) (c_half_dealt:CanM P w K mg base k "half_dealt" ["claims", "catch"] eH) (c_minus:CanM P w K mg base k "minus" ["one", "two"] cY) (c_less:CanM P w K mg base k "less" ["one", "two"] iM) (c_plus:CanM P w K mg base k "plus" ["one", "two"] kW) (c_rightly_dealt:CanM P w K mg base k "rightly_dealt" ["way", "weights", "claims", "catch"] r):CanM P w K mg base (k+1) "rightly_dealt" ["way", "weights", "claims", "catch"] (aP r):=
  aU F dS fun cdv A outer s H E G W WR=>(aG (bI (i:=4) dS.nd rfl (Or.inl rfl) (aM W c_whole rfl (aA (aZ (gU W.calm) oJ rfl B.sum fO (aA (aB 2 (pv 2)) aF aD)) aF aT)))
 (aG (iY (tst (eqA W.u) tT (aB 0 (pv 0)) (aV dO fun _=>.str _) (bC _)) (aL (fS (bQ W c_row_dealt rfl (aA (aB 2 (pv 2)) (aA (aB 3 (pv 3)) aF aD) aD)))) bH)
 (aG (iY (tst (eqA W.u) tT (aB 0 (pv 0)) (aV dO fun _=>.str _) (bC _)) (aL (fS (bQ W c_even_dealt rfl (aA (aB 1 (pv 1)) (aA (aB 2 (pv 2)) (aA (aB 3 (pv 3)) aF aD) aD) aD)))) bH)
 (aG (iY (tst (eqA W.u) tT (aB 0 (pv 0)) (aV dO fun _=>.str _) (bC _)) (aL (fS (bQ W c_part_dealt rfl (aA (aB 2 (pv 2)) (aA (aB 3 (pv 3)) aF aD) aD)))) bH)
 (aG (iY (PWd.pt (zLh (tst (eqA W.u) tT (aB 0 (pv 0)) (aV dO fun _=>.str _) (bC _)) (zGT (zCI (vE (aM W c_less rfl (aA (aB 4 (pv 4)) (aA (aM W c_plus rfl (aA (aB 3 (pv 3)) (aA (aB 3 (pv 3)) aF aD) aD)) aF aT) aD))))))) (aL (fS (bQ W c_half_dealt rfl (aA (aB 2 (pv 2)) (aA (aB 3 (pv 3)) aF aD) aD)))) bH)
 (aG (bI (i:=5) dS.nd rfl (Or.inl rfl) (PEf.d (bQ W c_rightly_dealt rfl (aA (zGS C.CONTRARY.choose_spec rfl (aB 0 (pv 0)) (fun _ _=>rfl)) (aA (aB 1 (pv 1)) (aA (aB 2 (pv 2)) (aA (aM W c_minus rfl (aA (aB 4 (pv 4)) (aA (aB 3 (pv 3)) aF aD) aD)) aF aT) aD) aD) aQ))))
 (aL (fS (mQ (N:=["way", "weights", "claims", "catch", "most", "lacking"]) W (by decide +kernel) rfl (sc:=aJ dC) rfl rfl (by decide +kernel) (zFH rfl B.zip (aA (aB 2 (pv 2)) (aA (aB 5 (pv 5)) aF aD) aD)) (fun C2 s2 H2 fp2 G W=>(aM W c_minus rfl (aA (aM W c_whole rfl (aA (aB 6 (pv 6)) aF aD)) (aA (aB 7 (pv 7)) aF aD) aT))))))))))))
theorem jG (F:Fn K mg "rightly_dealt" dC ["way", "weights", "claims", "catch"] f fd) (B:Bt mg) (KT:Kt K) (C:Ct K mg) (R:Rt K mg) (ET:Et K mg) (c_whole:CanM P w K mg base k "whole" ["number"] bP) (c_row_dealt:CanM P w K mg base k "row_dealt" ["claims", "catch"] fE) (c_even_dealt:CanM P w K mg base k "even_dealt" ["weights", "claims", "catch"] cP) (c_part_dealt:CanM P w K mg base k "part_dealt" ["claims", "catch"] eG) (c_half_dealt:CanM P w K mg base k "half_dealt" ["claims", "catch"] eH) (c_minus:CanM P w K mg base k "minus" ["one", "two"] cY) (c_less:CanM P w K mg base k "less" ["one", "two"] iM) (c_plus:CanM P w K mg base k "plus" ["one", "two"] kW):∀ n:Nat,CanM P w K mg base (k+1+n) "rightly_dealt" ["way", "weights", "claims", "catch"] (aN n)
 | 0=>aU F dS fun cdv A outer s H E G W WR=>zKD
 | n+1=>oZ (k:=k+1+n) F B KT C R ET (c_whole:=c_whole.mono (by omega)) (c_row_dealt:=c_row_dealt.mono (by omega)) (c_even_dealt:=c_even_dealt.mono (by omega)) (c_part_dealt:=c_part_dealt.mono (by omega)) (c_half_dealt:=c_half_dealt.mono (by omega)) (c_minus:=c_minus.mono (by omega)) (c_less:=c_less.mono (by omega)) (c_plus:=c_plus.mono (by omega)) (c_rightly_dealt:=jG F B KT C R ET (c_whole:=c_whole) (c_row_dealt:=c_row_dealt) (c_even_dealt:=c_even_dealt) (c_part_dealt:=c_part_dealt) (c_half_dealt:=c_half_dealt) (c_minus:=c_minus) (c_less:=c_less) (c_plus:=c_plus) n)
theorem yS (F:Fn K mg "way_lines" gE ["way", "weights", "claims"] f fd) (B:Bt mg) (KT:Kt K) (C:Ct K mg) (R:Rt K mg) (ET:Et K mg) (c_looked:CanM P w K mg base k "looked" ["way", "weights", "claims"] nH) (c_without_doubles:CanM P w K mg base k "without_doubles" ["joints"] cN) (c_joints_of:CanM P w K mg base k "joints_of" ["way", "weights", "claims"] (bD 2)) (c_rightly_dealt:CanM P w K mg base k "rightly_dealt" ["way", "weights", "claims", "catch"] (aN 2)) (c_line_at:CanM P w K mg base k "line_at" ["joints", "dealings", "spot"] jR):CanM P w K mg base (k+1) "way_lines" ["way", "weights", "claims"] bR:=
  aU F fI fun cdv A outer s H E G W WR=>(aG (uH (aM W c_looked rfl (aA (aB 0 (pv 0)) (aA (aB 1 (pv 1)) (aA (aB 2 (pv 2)) aF aD) aD) aD)))
 (aG (bI (i:=3) fI.nd rfl (Or.inr rfl) (PEf.d (bQ W c_without_doubles rfl (aA (PEf.d (bQ W c_joints_of rfl (aA (aB 0 (pv 0)) (aA (aB 1 (pv 1)) (aA (aB 2 (pv 2)) aF aD) aD) aD))) aF aT))))
 (aG (bI (i:=4) fI.nd rfl (Or.inr rfl) (PEf.d (kM W fI.nd rfl (sc:=aJ gE) rfl rfl (by decide +kernel) (iU (aB 3 (pv 3))) (fun C2 s2 H2 fp2 G W=>⟨rT,(PEf.d (bQ W c_rightly_dealt rfl (aA (aB 0 (pv 0)) (aA (aB 1 (pv 1)) (aA (aB 2 (pv 2)) (aA (aB 5 (pv 5)) aF aD) aD) aD) aD)))⟩))))
 (aL (fS (kM W fI.nd rfl (sc:=aJ gE) rfl rfl (by decide +kernel) (zKT rfl B.range (aA (aZ aR dX rfl B.len PySem.boot_len (aA (aB 2 (pv 2)) aF aD)) aF aT)) (fun C2 s2 H2 fp2 G W=>⟨rT,(aM W c_line_at rfl (aA (aB 3 (pv 3)) (aA (aB 4 (pv 4)) (aA (aB 5 (pv 5)) aF aD) aD) aD))⟩)))))))
theorem zKg (F:Fn K mg "law" oY ["script"] f fd) (B:Bt mg) (KT:Kt K) (C:Ct K mg) (R:Rt K mg) (ET:Et K mg) (c_law_cell_at:CanM P w K mg base k "_law_cell_at" ["script", "k"] eR) (c_law_claims:CanM P w K mg base k "_law_claims" ["cells", "plan"] fN) (c_way_lines:CanM P w K mg base k "way_lines" ["way", "weights", "claims"] bR) (c_law_all_fine:CanM P w K mg base k "_law_all_fine" ["found", "claims"] dP) (c_law_row:CanM P w K mg base k "_law_row" ["claims"] eO) (c_law_through:CanM P w K mg base k "_law_through" ["points"] cI):FnOk P w K mg base (CX1 P w) (k+1) f fd ["script"] (spM K mg 1 zIk):=
  zKy F jN fun cdv A outer s H E G W WR=>(aG (bI (i:=1) jN.nd rfl (Or.inl rfl) (aM W c_law_cell_at rfl (aA (aB 0 (pv 0)) (aA (aV aH fun _=>.int _) aF bG) aD)))
 (aG (bI (i:=2) jN.nd rfl (Or.inr rfl) (PEf.d (bQ W c_law_claims rfl (aA (PEf.d (zCe (aB 0 (pv 0)) (zAs (aV aH fun _=>.int _)) (zAs (aV aH fun _=>.int _)))) (aA (aB 1 (pv 1)) aF aD) aQ))))
 (aG (iY (tst (eqA W.u) tT (aB 2 (pv 2)) (PEf.d (dJ aF)) (bC _)) (aL (bI (i:=2) jN.nd rfl (Or.inr rfl) (PEf.d (dJ (aA (bM iQ wI (aB 1 (pv 1)) (aV aH fun _=>.int _)) aF bK))))) bH)
 (aG (bI (i:=3) jN.nd rfl (Or.inl rfl) (PEf.d (zEJ rfl B.list boot_list (aA (aB 2 (pv 2)) aF aD))))
 (aG (iY (tst (eqA W.u) tT (bM iQ wI (bM jT zAh (aB 1 (pv 1)) (aV aH fun _=>.int _)) (aV aH fun _=>.int _)) (aV aH fun _=>.int _) (bC _)) (aL (bI (i:=3) jN.nd rfl (Or.inl rfl) (qI jA zEU rfl B.tuple boot_tuple (aA (aB 2 (pv 2)) aF aD)))) bH)
 (aG (rJ (i:=4) jN.nd rfl (Or.inl rfl) (bQ W c_way_lines rfl (aA (aV dO fun _=>.str _) (aA (PEf.d (dJ aF)) (aA (aB 3 (pv 3)) aF aD) wB) bG)))
 (aG (bI (i:=5) jN.nd rfl (Or.inl rfl) (PEf.d (bQ W c_way_lines rfl (aA (aV dO fun _=>.str _) (aA (cO aF) (aA (aB 3 (pv 3)) aF aD) cJ) bG))))
 (aG (bI (i:=6) jN.nd rfl (Or.inl rfl) (PEf.d (bQ W c_way_lines rfl (aA (aV dO fun _=>.str _) (aA (PEf.d (dJ aF)) (aA (aB 3 (pv 3)) aF aD) wB) bG))))
 (aG (zJU W.own W.calm (j:=7) jN.nd rfl (Or.inl rfl) (iU (PEf.d (dJ (aA (aB 4 (pv 4)) (aA (aB 5 (pv 5)) (aA (aB 6 (pv 6)) aF aD) aD) aD)))) (zCI (vE (aM W c_law_all_fine rfl (aA (aB 7 (pv 7)) (aA (aB 2 (pv 2)) aF aD) aD)))))
 (aG (iY (PTd.frz (PWd.pt (zCS (tst (neA W.u) zCT (aB 4 (pv 4)) (PEf.d (bQ W c_law_row rfl (aA (aB 2 (pv 2)) aF aD))) (bC _)) (qJ (tst (neA W.u) zCT (aB 5 (pv 5)) (PEf.d (uA W.calm rfl B.list boot_list rfl B.reversed (PEf.d (bQ W c_law_row rfl (aA (PEf.d (uA W.calm rfl B.list boot_list rfl B.reversed (aB 2 (pv 2)))) aF aT))))) (bC _)))))) (aL (dI (aV oW fun _=>.bl _))) bH)
 (aG (bI (i:=8) jN.nd rfl (Or.inr rfl) (cO (aA (cO (aA (aV aH fun _=>.int _) (aA (aV aH fun _=>.int _) aF bG) bG)) (aA (cO (aA (aV aH fun _=>.int _) (aA (aV aH fun _=>.int _) aF bG) bG)) aF cJ) cJ)))
 (aG (iY (tst (neA W.u) zCT (aB 6 (pv 6)) (PEf.d (kM W jN.nd rfl (sc:=aJ oY) rfl rfl (by decide +kernel) (iU (aB 2 (pv 2))) (fun C2 s2 H2 fp2 G W=>⟨rT,(aM W c_law_through rfl (aA (PEf.d (dJ (aA (aB 8 (pv 8)) (aA (cO (aA (cO (aA (aZ (gU W.calm) oJ rfl B.sum fO (aA (aB 2 (pv 2)) aF aD)) (aA (aV aH fun _=>.int _) aF bG) aT)) (aA (cO (aA (aB 9 (pv 9)) (aA (aV aH fun _=>.int _) aF bG) aD)) aF cJ) cJ)) aF cJ) aD))) aF wB))⟩))) (bC _)) (aL (dI (aV oW fun _=>.bl _))) bH)
 (aG (tL (i:=4) (pv 4) (aV aH fun _=>.int _))
 (aL (dI (zGG (nA (eqA W.u) tT (PEf.d (zEJ rfl B.list boot_list (aA (aB 3 (pv 3)) aF aD))) (aB 2 (pv 2)) (bC _)) (zGu (nA (eqA W.u) tT (PEf.d (bQ W c_way_lines rfl (aA (aV dO fun _=>.str _) (aA (cO aF) (aA (aB 3 (pv 3)) aF aD) cJ) bG))) (PEf.d (bQ W c_law_row rfl (aA (aB 2 (pv 2)) aF aD))) (bC _)))))))))))))))))))
end
end Lw
namespace Lw
open PySem PySem.Spec PyProof.Rows L2 L3
def FnK (K:PySem.W.Frag) (x:Str) (st:Stmt):Prop:=∃ f oc od sl kV dc pm an cd ct,PySem.W.nsIn K mainGlobals x=some (some (.ref f))/\K.lookup f=some ⟨oc,od,.func (PySem.W.fnOf x x (iH st) (eM st) (aJ st) .none kV dc pm an cd ct),sl⟩/\PySem.W.codeIn K cd x=true/\PySem.W.keepIn K (.ref f)=true
theorem fk {K:PySem.W.Frag} {h:Heap} {mg:Str->Option Value} {x:Str} {st:Stmt} (X:K.In h) (G:h.Ns mainGlobals mg) (d:FnK K x st) (ps:List Str) (hb:∀ (kV doc pm:Value) (an:Option Addr) (cdv ct:Value) (us:List Value),us.length=ps.length->bindArgs (PySem.W.fnOf x x (iH st) (eM st) (aJ st) .none kV doc pm an cdv ct) ⟨us,[]⟩=pure (ps.zip us)):∃ f fd,Fn K mg x st ps f fd:=by
 obtain ⟨f,oc,od,sl,kV,dc,pm,an,cd,ct,a,l,c,k⟩:=d
 exact ⟨f,_,uI (st:=st) l c k,(uI (st:=st) l c k).binds (ps:=ps) hb,k,PySem.W.mg_of X G a⟩
theorem fkm {K:PySem.W.Frag} {x:Str} {st:Stmt} {f:Addr} {oc:Value} {od an:Option Addr} {sl:Array (Option Value)} {kV dc pm cd ct:Value} (a:PySem.W.nsIn K mainGlobals x=some (some (.ref f))) (l:K.lookup f=some ⟨oc,od,.func (PySem.W.fnOf x x (iH st) (eM st) (aJ st) .none kV dc pm an cd ct),sl⟩) (c:PySem.W.codeIn K cd x=true) (k:PySem.W.keepIn K (.ref f)=true):FnK K x st:=⟨f,oc,od,sl,kV,dc,pm,an,cd,ct,a,l,c,k⟩
theorem zLk {l:PySem.W.OpenLaw} {w:World} {K:PySem.W.Frag} {h:Heap} {mg:Str->Option Value} {fa f9 f43:Addr} (X:K.In h) (G:h.Ns mainGlobals mg) (hfa:mg "law" = some (.ref fa))
  {od9 an9:Option Addr} {sl9:Array (Option Value)} {oc9 kV9 dc9 pm9 ct9:Value}
  {od43 an43:Option Addr} {sl43:Array (Option Value)} {oc43 kV43 dc43 pm43 cd43 ct43:Value}
  (d0:FnK K "common_divisor" fQ)
  (d1:FnK K "made" zEf)
  (d2:FnK K "whole" zAV)
  (d3:FnK K "plus" zDA)
  (d4:FnK K "minus" zBj)
  (d5:FnK K "times" zAW)
  (d6:FnK K "over" zFc)
  (d7:FnK K "less" zDi)
  (d8:FnK K "lesser" uR)
  {cR T:Addr}
  (a9:PySem.W.nsIn K mainGlobals "ranked" = some (some (.ref f9))) (l9:K.lookup f9=some ⟨oc9,od9,.func (PySem.W.fnOf "ranked" "ranked" (iH fT) (eM fT) (aJ fT) .none kV9 dc9 pm9 an9 (.ref cR) ct9),sl9⟩) (c9:PySem.W.codeIn K (.ref cR) "ranked" = true) (k9:PySem.W.keepIn K (.ref f9)=true)
  (tq:PySem.W.codeHdIn K cR T=true) (tn:K.lookup T=none)
  (d10:FnK K "line_of" qS)
  (d11:FnK K "refuse_bad" kJ)
  (d12:FnK K "is_between" jY)
  (d13:FnK K "looked" uY)
  (d14:FnK K "refuse_way" jU)
  (d15:FnK K "refuse_claims" gI)
  (d16:FnK K "refuse_weights" fR)
  (d17:FnK K "contrary_way" iB)
  (d18:FnK K "rightly_dealt" dC)
  (d19:FnK K "row_dealt" lU)
  (d20:FnK K "even_dealt" kE)
  (d21:FnK K "levels_of" iW)
  (d22:FnK K "part_dealt" gT)
  (d23:FnK K "half_dealt" gZ)
  (d24:FnK K "way_lines" gE)
  (d25:FnK K "line_at" mH)
  (d26:FnK K "joints_of" gJ)
  (d27:FnK K "row_joints" kK)
  (d28:FnK K "even_joints" iV)
  (d29:FnK K "mirrored" kN)
  (d30:FnK K "without_doubles" fF)
  (d31:FnK K "_law_cell_at" iS)
  (d32:FnK K "_law_made" nK)
  (d33:FnK K "_law_minus" lQ)
  (d34:FnK K "_law_times" lX)
  (d35:FnK K "_law_less" oF)
  (d36:FnK K "_law_is_fraction" eY)
  (d37:FnK K "_law_fewest" jV)
  (d38:FnK K "_law_fine" nU)
  (d39:FnK K "_law_all_fine" iA)
  (d40:FnK K "_law_claims" jQ)
  (d41:FnK K "_law_through" iR)
  (d42:FnK K "_law_row" mY)
  (a43:PySem.W.nsIn K mainGlobals "law" = some (some (.ref f43))) (l43:K.lookup f43=some ⟨oc43,od43,.func (PySem.W.fnOf "law" "law" (iH oY) (eM oY) (aJ oY) .none kV43 dc43 pm43 an43 cd43 ct43),sl43⟩) (c43:PySem.W.codeIn K cd43 "law" = true) (k43:PySem.W.keepIn K (.ref f43)=true)
  (z_abs:PySem.W.nsIn K mainGlobals "abs" = some none)
  (z_sorted:PySem.W.nsIn K mainGlobals "sorted" = some none)
  (z_range:PySem.W.nsIn K mainGlobals "range" = some none)
  (z_len:PySem.W.nsIn K mainGlobals "len" = some none)
  (z_tuple:PySem.W.nsIn K mainGlobals "tuple" = some none)
  (z_sum:PySem.W.nsIn K mainGlobals "sum" = some none)
  (z_zip:PySem.W.nsIn K mainGlobals "zip" = some none)
  (z_reversed:PySem.W.nsIn K mainGlobals "reversed" = some none)
  (z_isinstance:PySem.W.nsIn K mainGlobals "isinstance" = some none)
  (z_bool:PySem.W.nsIn K mainGlobals "bool" = some none)
  (z_int:PySem.W.nsIn K mainGlobals "int" = some none)
  (z_list:PySem.W.nsIn K mainGlobals "list" = some none)
  (KT:Kt K) (CC:∀ (h:Heap) (mg:Str->Option Value),K.In h->h.Ns mainGlobals mg->Ct K mg) (RR:∀ (h:Heap) (mg:Str->Option Value),K.In h->h.Ns mainGlobals mg->Rt K mg) (EE:∀ (h:Heap) (mg:Str->Option Value),K.In h->h.Ns mainGlobals mg->Et K mg)
  : K.lookup T=none/\mZ K mg T/\∃ fd:FuncData,(∀ (s:Shared) (v:Value),BindsTo s fd ⟨[v],[]⟩ [("script", v)])/\∀ base:Heap,K.In base->base.Ns mainGlobals mg->BMn base mg->FnOk l.prog w K mg base (CX1 l.prog w) 10 fa fd ["script"] (zKd K mg):=by
 have e:=hfa.symm.trans (PySem.W.mg_of X G a43)
 cases e
 have B:Bt mg:=⟨PySem.W.mg_none_of X G z_abs,PySem.W.mg_none_of X G z_sorted,PySem.W.mg_none_of X G z_range,PySem.W.mg_none_of X G z_len,PySem.W.mg_none_of X G z_tuple,PySem.W.mg_none_of X G z_sum,PySem.W.mg_none_of X G z_zip,PySem.W.mg_none_of X G z_reversed,PySem.W.mg_none_of X G z_isinstance,PySem.W.mg_none_of X G z_bool,PySem.W.mg_none_of X G z_int,PySem.W.mg_none_of X G z_list⟩
 have C:Ct K mg:=CC h mg X G
 have R:Rt K mg:=RR h mg X G
 have ET:Et K mg:=EE h mg X G
 have hT:mZ K mg T:=⟨f9,_,_,_,_,cR,PySem.W.mg_of X G a9,l9,rfl,fun h X=>PySem.W.codeHd_of_K X tq⟩
 refine ⟨tn,hT,?_⟩
 refine ⟨PySem.W.fnOf "law" "law" (iH oY) (eM oY) (aJ oY) .none kV43 dc43 pm43 an43 cd43 ct43,fun s v=>.of_eq rfl,fun base _ _ hB=>?_⟩
 obtain ⟨_,_,F0⟩:=fk X G d0 ["one", "two"] fun _ _ _ _ _ _ us hl=>by obtain ⟨_,_,rfl⟩:=L3.ln2 hl;rfl
 have c_common_divisor:=nQ (P:=l.prog) (w:=w) (base:=base) (k:=0) F0 B KT C R ET
 obtain ⟨_,_,F2⟩:=fk X G d2 ["number"] fun _ _ _ _ _ _ us hl=>by obtain ⟨_,rfl⟩:=L3.ln1 hl;rfl
 have c_whole:=zGt (P:=l.prog) (w:=w) (base:=base) (k:=0) F2 B KT C R ET
 obtain ⟨_,_,F7⟩:=fk X G d7 ["one", "two"] fun _ _ _ _ _ _ us hl=>by obtain ⟨_,_,rfl⟩:=L3.ln2 hl;rfl
 have c_less:=zIM (P:=l.prog) (w:=w) (base:=base) (k:=0) F7 B KT C R ET
 have F9:Fn K mg "ranked" fT ["some"] _ _:=⟨uI (st:=fT) l9 c9 k9,(uI (st:=fT) l9 c9 k9).binds (ps:=["some"]) fun _ _ _ _ _ _ us hl=>by obtain ⟨_,rfl⟩:=L3.ln1 hl;rfl,k9,PySem.W.mg_of X G a9⟩
 have c_ranked:=zDE (P:=l.prog) (w:=w) (base:=base) (k:=0) F9 B KT C R ET hT hB
 obtain ⟨_,_,F14⟩:=fk X G d14 ["way"] fun _ _ _ _ _ _ us hl=>by obtain ⟨_,rfl⟩:=L3.ln1 hl;rfl
 have c_refuse_way:=vF (P:=l.prog) (w:=w) (base:=base) (k:=0) F14 B KT C R ET
 obtain ⟨_,_,F15⟩:=fk X G d15 ["claims"] fun _ _ _ _ _ _ us hl=>by obtain ⟨_,rfl⟩:=L3.ln1 hl;rfl
 have c_refuse_claims:=oV (P:=l.prog) (w:=w) (base:=base) (k:=0) F15 B KT C R ET
 obtain ⟨_,_,F16⟩:=fk X G d16 ["way", "weights", "many"] fun _ _ _ _ _ _ us hl=>by obtain ⟨_,_,_,rfl⟩:=L3.ln3 hl;rfl
 have c_refuse_weights:=oG (P:=l.prog) (w:=w) (base:=base) (k:=0) F16 B KT C R ET
 obtain ⟨_,_,F31⟩:=fk X G d31 ["script", "k"] fun _ _ _ _ _ _ us hl=>by obtain ⟨_,_,rfl⟩:=L3.ln2 hl;rfl
 have c_law_cell_at:=sH (P:=l.prog) (w:=w) (base:=base) (k:=0) F31 B KT C R ET
 obtain ⟨_,_,F32⟩:=fk X G d32 ["top", "bottom"] fun _ _ _ _ _ _ us hl=>by obtain ⟨_,_,rfl⟩:=L3.ln2 hl;rfl
 have c_law_made:=zAl (P:=l.prog) (w:=w) (base:=base) (k:=0) F32 B KT C R ET
 obtain ⟨_,_,F35⟩:=fk X G d35 ["one", "two"] fun _ _ _ _ _ _ us hl=>by obtain ⟨_,_,rfl⟩:=L3.ln2 hl;rfl
 have c_law_less:=zAf (P:=l.prog) (w:=w) (base:=base) (k:=0) F35 B KT C R ET
 obtain ⟨_,_,F40⟩:=fk X G d40 ["cells", "plan"] fun _ _ _ _ _ _ us hl=>by obtain ⟨_,_,rfl⟩:=L3.ln2 hl;rfl
 have c_law_claims:=wX (P:=l.prog) (w:=w) (base:=base) (k:=0) F40 B KT C R ET
 obtain ⟨_,_,F1⟩:=fk X G d1 ["top", "bottom"] fun _ _ _ _ _ _ us hl=>by obtain ⟨_,_,rfl⟩:=L3.ln2 hl;rfl
 have c_made:=zIO (P:=l.prog) (w:=w) (base:=base) (k:=1) F1 B KT C R ET (c_common_divisor:=c_common_divisor.mono (by decide))
 obtain ⟨_,_,F8⟩:=fk X G d8 ["one", "two"] fun _ _ _ _ _ _ us hl=>by obtain ⟨_,_,rfl⟩:=L3.ln2 hl;rfl
 have c_lesser:=zEp (P:=l.prog) (w:=w) (base:=base) (k:=1) F8 B KT C R ET (c_less:=c_less.mono (by decide))
 obtain ⟨_,_,F11⟩:=fk X G d11 ["points"] fun _ _ _ _ _ _ us hl=>by obtain ⟨_,rfl⟩:=L3.ln1 hl;rfl
 have c_refuse_bad:=vK (P:=l.prog) (w:=w) (base:=base) (k:=1) F11 B KT C R ET (c_less:=c_less.mono (by decide))
 obtain ⟨_,_,F13⟩:=fk X G d13 ["way", "weights", "claims"] fun _ _ _ _ _ _ us hl=>by obtain ⟨_,_,_,rfl⟩:=L3.ln3 hl;rfl
 have c_looked:=zES (P:=l.prog) (w:=w) (base:=base) (k:=1) F13 B KT C R ET (c_refuse_way:=c_refuse_way.mono (by decide)) (c_refuse_claims:=c_refuse_claims.mono (by decide)) (c_refuse_weights:=c_refuse_weights.mono (by decide))
 obtain ⟨_,_,F17⟩:=fk X G d17 ["way"] fun _ _ _ _ _ _ us hl=>by obtain ⟨_,rfl⟩:=L3.ln1 hl;rfl
 have c_contrary_way:=qP (P:=l.prog) (w:=w) (base:=base) (k:=1) F17 B KT C R ET (c_refuse_way:=c_refuse_way.mono (by decide))
 obtain ⟨_,_,F27⟩:=fk X G d27 ["claims"] fun _ _ _ _ _ _ us hl=>by obtain ⟨_,rfl⟩:=L3.ln1 hl;rfl
 have c_row_joints:=wD (P:=l.prog) (w:=w) (base:=base) (k:=1) F27 B KT C R ET (c_whole:=c_whole.mono (by decide))
 obtain ⟨_,_,F30⟩:=fk X G d30 ["joints"] fun _ _ _ _ _ _ us hl=>by obtain ⟨_,rfl⟩:=L3.ln1 hl;rfl
 have c_without_doubles:=mB (P:=l.prog) (w:=w) (base:=base) (k:=1) F30 B KT C R ET (c_less:=c_less.mono (by decide))
 obtain ⟨_,_,F33⟩:=fk X G d33 ["one", "two"] fun _ _ _ _ _ _ us hl=>by obtain ⟨_,_,rfl⟩:=L3.ln2 hl;rfl
 have c_law_minus:=zP (P:=l.prog) (w:=w) (base:=base) (k:=1) F33 B KT C R ET (c_law_made:=c_law_made.mono (by decide))
 obtain ⟨_,_,F34⟩:=fk X G d34 ["one", "two"] fun _ _ _ _ _ _ us hl=>by obtain ⟨_,_,rfl⟩:=L3.ln2 hl;rfl
 have c_law_times:=xY (P:=l.prog) (w:=w) (base:=base) (k:=1) F34 B KT C R ET (c_law_made:=c_law_made.mono (by decide))
 obtain ⟨_,_,F36⟩:=fk X G d36 ["found"] fun _ _ _ _ _ _ us hl=>by obtain ⟨_,rfl⟩:=L3.ln1 hl;rfl
 have c_law_is_fraction:=lZ (P:=l.prog) (w:=w) (base:=base) (k:=1) F36 B KT C R ET (c_law_made:=c_law_made.mono (by decide))
 obtain ⟨_,_,F3⟩:=fk X G d3 ["one", "two"] fun _ _ _ _ _ _ us hl=>by obtain ⟨_,_,rfl⟩:=L3.ln2 hl;rfl
 have c_plus:=zHK (P:=l.prog) (w:=w) (base:=base) (k:=2) F3 B KT C R ET (c_made:=c_made.mono (by decide))
 obtain ⟨_,_,F4⟩:=fk X G d4 ["one", "two"] fun _ _ _ _ _ _ us hl=>by obtain ⟨_,_,rfl⟩:=L3.ln2 hl;rfl
 have c_minus:=zGs (P:=l.prog) (w:=w) (base:=base) (k:=2) F4 B KT C R ET (c_made:=c_made.mono (by decide))
 obtain ⟨_,_,F5⟩:=fk X G d5 ["one", "two"] fun _ _ _ _ _ _ us hl=>by obtain ⟨_,_,rfl⟩:=L3.ln2 hl;rfl
 have c_times:=zGk (P:=l.prog) (w:=w) (base:=base) (k:=2) F5 B KT C R ET (c_made:=c_made.mono (by decide))
 obtain ⟨_,_,F6⟩:=fk X G d6 ["one", "two"] fun _ _ _ _ _ _ us hl=>by obtain ⟨_,_,rfl⟩:=L3.ln2 hl;rfl
 have c_over:=zHU (P:=l.prog) (w:=w) (base:=base) (k:=2) F6 B KT C R ET (c_made:=c_made.mono (by decide))
 obtain ⟨_,_,F21⟩:=fk X G d21 ["weights", "claims"] fun _ _ _ _ _ _ us hl=>by obtain ⟨_,_,rfl⟩:=L3.ln2 hl;rfl
 have c_levels_of:=zM (P:=l.prog) (w:=w) (base:=base) (k:=2) F21 B KT C R ET (c_made:=c_made.mono (by decide))
 obtain ⟨_,_,F37⟩:=fk X G d37 ["points"] fun _ _ _ _ _ _ us hl=>by obtain ⟨_,rfl⟩:=L3.ln1 hl;rfl
 have c_law_fewest:=wK (P:=l.prog) (w:=w) (base:=base) (k:=2) F37 B KT C R ET (c_law_minus:=c_law_minus.mono (by decide)) (c_law_times:=c_law_times.mono (by decide))
 obtain ⟨_,_,F12⟩:=fk X G d12 ["ahead", "point", "later"] fun _ _ _ _ _ _ us hl=>by obtain ⟨_,_,_,rfl⟩:=L3.ln3 hl;rfl
 have c_is_between:=vJ (P:=l.prog) (w:=w) (base:=base) (k:=3) F12 B KT C R ET (c_minus:=c_minus.mono (by decide)) (c_times:=c_times.mono (by decide))
 obtain ⟨_,_,F19⟩:=fk X G d19 ["claims", "catch"] fun _ _ _ _ _ _ us hl=>by obtain ⟨_,_,rfl⟩:=L3.ln2 hl;rfl
 have c_row_dealt:=yA (P:=l.prog) (w:=w) (base:=base) (k:=3) F19 B KT C R ET (c_lesser:=c_lesser.mono (by decide)) (c_minus:=c_minus.mono (by decide)) (c_whole:=c_whole.mono (by decide))
 obtain ⟨_,_,F20⟩:=fk X G d20 ["weights", "claims", "catch"] fun _ _ _ _ _ _ us hl=>by obtain ⟨_,_,_,rfl⟩:=L3.ln3 hl;rfl
 have c_even_dealt:=wJ (P:=l.prog) (w:=w) (base:=base) (k:=3) F20 B KT C R ET (c_ranked:=c_ranked.mono (by decide)) (c_levels_of:=c_levels_of.mono (by decide)) (c_over:=c_over.mono (by decide)) (c_lesser:=c_lesser.mono (by decide)) (c_minus:=c_minus.mono (by decide)) (c_times:=c_times.mono (by decide)) (c_whole:=c_whole.mono (by decide))
 obtain ⟨_,_,F22⟩:=fk X G d22 ["claims", "catch"] fun _ _ _ _ _ _ us hl=>by obtain ⟨_,_,rfl⟩:=L3.ln2 hl;rfl
 have c_part_dealt:=vG (P:=l.prog) (w:=w) (base:=base) (k:=3) F22 B KT C R ET (c_over:=c_over.mono (by decide)) (c_whole:=c_whole.mono (by decide)) (c_times:=c_times.mono (by decide))
 obtain ⟨_,_,F28⟩:=fk X G d28 ["weights", "claims"] fun _ _ _ _ _ _ us hl=>by obtain ⟨_,_,rfl⟩:=L3.ln2 hl;rfl
 have c_even_joints:=tK (P:=l.prog) (w:=w) (base:=base) (k:=3) F28 B KT C R ET (c_levels_of:=c_levels_of.mono (by decide)) (c_ranked:=c_ranked.mono (by decide)) (c_plus:=c_plus.mono (by decide)) (c_whole:=c_whole.mono (by decide)) (c_times:=c_times.mono (by decide))
 obtain ⟨_,_,F29⟩:=fk X G d29 ["joints", "most"] fun _ _ _ _ _ _ us hl=>by obtain ⟨_,_,rfl⟩:=L3.ln2 hl;rfl
 have c_mirrored:=zAX (P:=l.prog) (w:=w) (base:=base) (k:=3) F29 B KT C R ET (c_minus:=c_minus.mono (by decide))
 obtain ⟨_,_,F38⟩:=fk X G d38 ["found"] fun _ _ _ _ _ _ us hl=>by obtain ⟨_,rfl⟩:=L3.ln1 hl;rfl
 have c_law_fine:=zAN (P:=l.prog) (w:=w) (base:=base) (k:=3) F38 B KT C R ET (c_law_fewest:=c_law_fewest.mono (by decide)) (c_law_less:=c_law_less.mono (by decide)) (c_law_is_fraction:=c_law_is_fraction.mono (by decide))
 obtain ⟨_,_,F41⟩:=fk X G d41 ["points"] fun _ _ _ _ _ _ us hl=>by obtain ⟨_,rfl⟩:=L3.ln1 hl;rfl
 have c_law_through:=sB (P:=l.prog) (w:=w) (base:=base) (k:=3) F41 B KT C R ET (c_law_fewest:=c_law_fewest.mono (by decide))
 obtain ⟨_,_,F10⟩:=fk X G d10 ["points"] fun _ _ _ _ _ _ us hl=>by obtain ⟨_,rfl⟩:=L3.ln1 hl;rfl
 have c_line_of:=zCw (P:=l.prog) (w:=w) (base:=base) (k:=4) F10 B KT C R ET (c_refuse_bad:=c_refuse_bad.mono (by decide)) (c_is_between:=c_is_between.mono (by decide))
 obtain ⟨_,_,F23⟩:=fk X G d23 ["claims", "catch"] fun _ _ _ _ _ _ us hl=>by obtain ⟨_,_,rfl⟩:=L3.ln2 hl;rfl
 have c_half_dealt:=vN (P:=l.prog) (w:=w) (base:=base) (k:=4) F23 B KT C R ET (c_times:=c_times.mono (by decide)) (c_even_dealt:=c_even_dealt.mono (by decide)) (c_plus:=c_plus.mono (by decide))
 obtain ⟨_,_,F39⟩:=fk X G d39 ["found", "claims"] fun _ _ _ _ _ _ us hl=>by obtain ⟨_,_,rfl⟩:=L3.ln2 hl;rfl
 have c_law_all_fine:=pY (P:=l.prog) (w:=w) (base:=base) (k:=4) F39 B KT C R ET (c_law_fine:=c_law_fine.mono (by decide))
 obtain ⟨_,_,F42⟩:=fk X G d42 ["claims"] fun _ _ _ _ _ _ us hl=>by obtain ⟨_,rfl⟩:=L3.ln1 hl;rfl
 have c_law_row:=zCR (P:=l.prog) (w:=w) (base:=base) (k:=4) F42 B KT C R ET (c_law_through:=c_law_through.mono (by decide))
 obtain ⟨_,_,F25⟩:=fk X G d25 ["joints", "dealings", "spot"] fun _ _ _ _ _ _ us hl=>by obtain ⟨_,_,_,rfl⟩:=L3.ln3 hl;rfl
 have c_line_at:=zCu (P:=l.prog) (w:=w) (base:=base) (k:=5) F25 B KT C R ET (c_line_of:=c_line_of.mono (by decide))
 obtain ⟨_,_,F26⟩:=fk X G d26 ["way", "weights", "claims"] fun _ _ _ _ _ _ us hl=>by obtain ⟨_,_,_,rfl⟩:=L3.ln3 hl;rfl
 have c_joints_of:=oR (P:=l.prog) (w:=w) (base:=base) (k:=4) F26 B KT C R ET (c_whole:=c_whole.mono (by decide)) (c_mirrored:=c_mirrored.mono (by decide)) (c_row_joints:=c_row_joints.mono (by decide)) (c_even_joints:=c_even_joints.mono (by decide)) (c_times:=c_times.mono (by decide)) (c_contrary_way:=c_contrary_way.mono (by decide)) 2
 obtain ⟨_,_,F18⟩:=fk X G d18 ["way", "weights", "claims", "catch"] fun _ _ _ _ _ _ us hl=>by obtain ⟨_,_,_,_,rfl⟩:=L3.ln4 hl;rfl
 have c_rightly_dealt:=jG (P:=l.prog) (w:=w) (base:=base) (k:=5) F18 B KT C R ET (c_whole:=c_whole.mono (by decide)) (c_row_dealt:=c_row_dealt.mono (by decide)) (c_even_dealt:=c_even_dealt.mono (by decide)) (c_part_dealt:=c_part_dealt.mono (by decide)) (c_half_dealt:=c_half_dealt.mono (by decide)) (c_minus:=c_minus.mono (by decide)) (c_less:=c_less.mono (by decide)) (c_plus:=c_plus.mono (by decide)) 2
 obtain ⟨_,_,F24⟩:=fk X G d24 ["way", "weights", "claims"] fun _ _ _ _ _ _ us hl=>by obtain ⟨_,_,_,rfl⟩:=L3.ln3 hl;rfl
 have c_way_lines:=yS (P:=l.prog) (w:=w) (base:=base) (k:=8) F24 B KT C R ET (c_looked:=c_looked.mono (by decide)) (c_without_doubles:=c_without_doubles.mono (by decide)) (c_joints_of:=c_joints_of.mono (by decide)) (c_rightly_dealt:=c_rightly_dealt.mono (by decide)) (c_line_at:=c_line_at.mono (by decide))
 have F43:Fn K mg "law" oY ["script"] _ _:=⟨uI (st:=oY) l43 c43 k43,(uI (st:=oY) l43 c43 k43).binds (ps:=["script"]) fun _ _ _ _ _ _ us hl=>by obtain ⟨_,rfl⟩:=L3.ln1 hl;rfl,k43,PySem.W.mg_of X G a43⟩
 have c_law:=zKg (P:=l.prog) (w:=w) (base:=base) (k:=9) F43 B KT C R ET (c_law_cell_at:=c_law_cell_at.mono (by decide)) (c_law_claims:=c_law_claims.mono (by decide)) (c_way_lines:=c_way_lines.mono (by decide)) (c_law_all_fine:=c_law_all_fine.mono (by decide)) (c_law_row:=c_law_row.mono (by decide)) (c_law_through:=c_law_through.mono (by decide))
 exact zIS c_law law_true
end Lw
open PySem PySem.W PyProof.Rows
local macro_rules | `(tactic| walk_at "fk")=>`(tactic| (refine' Lw.fkm ?a ?l ?c ?k;(case a=>k_is);(case l=>k_is);(case c=>k_is);(case k=>k_is)))
set_option maxRecDepth 100000 in
set_option maxHeartbeats 0 in
theorem PySem.Challenge.cw_catchhall_k19_lines_in_order_and_by_part_holds : PySem.Challenge.rw_catchhall_k19_lines_in_order_and_by_part.Holds := by
 w_on;o_law;k_head;(case hw=>w_witness2)
 k_fill
 refine L3.zMv (l:=PySem.Challenge.rw_catchhall_k19_lines_in_order_and_by_part) (k:=10) rfl rfl ⟨rfl,by decide,by decide⟩ (fun w h Y=>PySem.W.km_in_of Y) (fun w h Y=>PySem.W.km_tabs_of Y _ (.head _)) ?F
 case F=>
  intro w mg fa h KX G hmg
  refine' Lw.zLk KX G hmg ?d0 ?d1 ?d2 ?d3 ?d4 ?d5 ?d6 ?d7 ?d8 ?a9 ?l9 ?c9 ?k9 ?tq ?tn ?d10 ?d11 ?d12 ?d13 ?d14 ?d15 ?d16 ?d17 ?d18 ?d19 ?d20 ?d21 ?d22 ?d23 ?d24 ?d25 ?d26 ?d27 ?d28 ?d29 ?d30 ?d31 ?d32 ?d33 ?d34 ?d35 ?d36 ?d37 ?d38 ?d39 ?d40 ?d41 ?d42 ?a43 ?l43 ?c43 ?k43 ?z_abs ?z_sorted ?z_range ?z_len ?z_tuple ?z_sum ?z_zip ?z_reversed ?z_isinstance ?z_bool ?z_int ?z_list ?KT ?CC ?RR ?EE
  (case a9=>k_is)
  (case l9=>k_is)
  (case c9=>k_is)
  (case k9=>k_is)
  (case tq=>first | k_is | kernel_rfl | kn_code | decide +kernel)
  (case tn=>first | k_is | kernel_rfl | kn_code | decide +kernel)
  (case a43=>k_is)
  (case l43=>k_is)
  (case c43=>k_is)
  (case k43=>k_is)
  (case d0=>walk_at "fk")
  (case d1=>walk_at "fk")
  (case d2=>walk_at "fk")
  (case d3=>walk_at "fk")
  (case d4=>walk_at "fk")
  (case d5=>walk_at "fk")
  (case d6=>walk_at "fk")
  (case d7=>walk_at "fk")
  (case d8=>walk_at "fk")
  (case d10=>walk_at "fk")
  (case d11=>walk_at "fk")
  (case d12=>walk_at "fk")
  (case d13=>walk_at "fk")
  (case d14=>walk_at "fk")
  (case d15=>walk_at "fk")
  (case d16=>walk_at "fk")
  (case d17=>walk_at "fk")
  (case d18=>walk_at "fk")
  (case d19=>walk_at "fk")
  (case d20=>walk_at "fk")
  (case d21=>walk_at "fk")
  (case d22=>walk_at "fk")
  (case d23=>walk_at "fk")
  (case d24=>walk_at "fk")
  (case d25=>walk_at "fk")
  (case d26=>walk_at "fk")
  (case d27=>walk_at "fk")
  (case d28=>walk_at "fk")
  (case d29=>walk_at "fk")
  (case d30=>walk_at "fk")
  (case d31=>walk_at "fk")
  (case d32=>walk_at "fk")
  (case d33=>walk_at "fk")
  (case d34=>walk_at "fk")
  (case d35=>walk_at "fk")
  (case d36=>walk_at "fk")
  (case d37=>walk_at "fk")
  (case d38=>walk_at "fk")
  (case d39=>walk_at "fk")
  (case d40=>walk_at "fk")
  (case d41=>walk_at "fk")
  (case d42=>walk_at "fk")
  (case z_abs=>k_is)
  (case z_sorted=>k_is)
  (case z_range=>k_is)
  (case z_len=>k_is)
  (case z_tuple=>k_is)
  (case z_sum=>k_is)
  (case z_zip=>k_is)
  (case z_reversed=>k_is)
  (case z_isinstance=>k_is)
  (case z_bool=>k_is)
  (case z_int=>k_is)
  (case z_list=>k_is)
  (case KT=>refine' ⟨⟨?t0_0,?t0_1,?t0_2,?t0_3,?t0_4,?t0_5⟩,⟨?t1_0,?t1_1,?t1_2,?t1_3,?t1_4,?t1_5⟩,⟨?t2_0,?t2_1,?t2_2,?t2_3,?t2_4,?t2_5⟩,⟨?t3_0,?t3_1,?t3_2,?t3_3,?t3_4,?t3_5⟩⟩<;>(first | kit_is | (show _=some true;kit_is) | (show _=some false;kit_is) | rfl | decide +kernel))
  (case CC=>
   intro h mg X G
   refine' Lw.zLI X G ?n_ACROSS ?n_HALF ?pHALF0_l ?n_NOUGHT ?pNOUGHT1_l ?n_UP ?n_WEIGHTED ?pWEIGHTED2_l ?n_CONTRARY ?aS<;>try first | k_is | kit_is | k_exc | rfl | decide +kernel | kernel_rfl)
  (case RR=>
   intro h mg X G
   refine' Lw.zMh X G ?n_BadClaim ?x_BadClaim ?n_BadLine ?x_BadLine ?n_BadWay ?x_BadWay ?n_BadWeights ?x_BadWeights ?n_NoFraction ?x_NoFraction<;>try first | k_is | kit_is | k_exc | rfl | decide +kernel | kernel_rfl)
  (case EE=>
   intro h mg X G
   refine' Lw.zLH X G )
