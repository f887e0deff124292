import PyProof.Rows.All
import Wide.All
import OpenK.AllK
import Wide.FinOn
import Lean
import PyProof.EqAt
import PyProof.EqKinds
import PyProof.TupleCall
import PyProof.NeKinds
import KE.KRevIter
import PyProof.Rows.SumAny
import PySem.Challenge.RW_catchhall_k22_whole_lines_tell_all_deali
noncomputable section
set_option Elab.async false
set_option linter.all false
set_option maxRecDepth 100000
namespace L2
open PySem PySem.Spec PyProof.Rows
abbrev Key:=Sum Int Str
def zKn:Key->Value->Bool
 | .inl k,v=>Value.isInt k v
 | .inr x,v=>Value.isStrOf x v
def zOy (w:World):Key->Int
 | .inl k=>hashInt k
 | .inr x=>hashStr w x
theorem dA:∀ {k:Key} {v:Value},zKn k v=true->(∃ i t,k=Sum.inl i/\v=Value.int i t)∨(∃ x t,k=Sum.inr x/\v=Value.str x t)
 | .inl i,v,h=>by
  obtain ⟨t,e⟩:=Value.isInt_shape (k:=i) (v:=v) h
  exact .inl ⟨i,t,rfl,e⟩
 | .inr x,v,h=>by
  obtain ⟨t,e⟩:=Value.isStrOf_shape (x:=x) (v:=v) h
  exact .inr ⟨x,t,rfl,e⟩
theorem zLW (a b:Int):decide ((Sum.inl a:Key)=Sum.inl b)=(a==b):=by
 by_cases e:a=b
 ·subst e;simp
 ·have h:¬ (Sum.inl a:Key)=Sum.inl b:=fun q=>e (Sum.inl.inj q)
  rw [decide_eq_false h]
  exact (beq_eq_false_iff_ne.mpr e).symm
theorem zKF (a b:Str):decide ((Sum.inr a:Key)=Sum.inr b)=decide (a=b):=by
 by_cases e:a=b
 ·subst e;simp
 ·have h:¬ (Sum.inr a:Key)=Sum.inr b:=fun q=>e (Sum.inr.inj q)
  rw [decide_eq_false h,decide_eq_false e]
theorem zLD (a:Int) (b:Str):decide ((Sum.inl a:Key)=Sum.inr b)=false:=decide_eq_false (fun q=>nomatch q)
theorem zKM (a:Str) (b:Int):decide ((Sum.inr a:Key)=Sum.inl b)=false:=decide_eq_false (fun q=>nomatch q)
def zFx (prog:Program) (w:World):PySem.KeyKind prog w Key where
 is:=zKn
 hash:=zOy w
 inj:=fun v a b ha hb=>by
  rcases dA ha with ⟨i,t,rfl,rfl⟩ | ⟨x,t,rfl,rfl⟩
  ·rcases dA hb with ⟨j,u,rfl,e⟩ | ⟨y,u,rfl,e⟩
   ·injection e with e1 _;rw [e1]
   ·exact nomatch e
  ·rcases dA hb with ⟨j,u,rfl,e⟩ | ⟨y,u,rfl,e⟩
   ·exact nomatch e
   ·injection e with e1 _;rw [e1]
 byValue:=fun k v h=>by
  rcases dA h with ⟨i,t,rfl,rfl⟩ | ⟨x,t,rfl,rfl⟩<;>rfl
 pyHash:=fun hv h=>by
  rcases dA hv with ⟨i,t,rfl,rfl⟩ | ⟨x,t,rfl,rfl⟩
  ·exact wpAny_pyHash_int h
  ·exact wpAny_pyHash_str h
 eqBool:=fun hu hv h=>by
  rcases dA hu with ⟨i,t,rfl,rfl⟩ | ⟨x,t,rfl,rfl⟩
  ·rcases dA hv with ⟨j,u,rfl,rfl⟩ | ⟨y,u,rfl,rfl⟩
   ·rw [zLW] at h;exact wpAny_eqBool_int h
   ·rw [zLD] at h;exact SeqAt.EqAt.int_str i t y u _ _ _ _ h
  ·rcases dA hv with ⟨j,u,rfl,rfl⟩ | ⟨y,u,rfl,rfl⟩
   ·rw [zKM] at h;exact SeqAt.EqAt.str_int x t j u _ _ _ _ h
   ·rw [zKF] at h;exact wpAny_eqBool_str h
 «strs» := fun k x t v h=>by
  rcases dA h with ⟨i,u,rfl,e⟩ | ⟨y,u,rfl,e⟩
  ·exact nomatch e
  ·injection e with e1 _
   subst e1
   cases v<;>rfl
end L2
namespace L2
open PySem PySem.Spec PyProof.Rows
inductive V where
 | non | bl (b:Bool) | int (i:Int) | str (x:Str) | byt (b:Array UInt8) | flt (b:UInt64) | ref (a:Addr) | ty (n:String)
 deriving DecidableEq
def cY:V->Value->Prop
 | .non,u=>u=Value.none
 | .bl b,u=>u=Value.bool b
 | .int i,u=>∃ t,u=Value.int i t
 | .str x,u=>∃ t,u=Value.str x t
 | .byt b,u=>∃ t,u=Value.bytes b t
 | .flt b,u=>∃ t,u=Value.float b t
 | .ref a,u=>u=Value.ref a
 | .ty n,u=>u=Value.type n
abbrev dG:List V->List Value->Prop:=Paired cY
theorem dG.length {xs:List V} {us:List Value} (r:dG xs us):xs.length=us.length:=Paired.length r
theorem dG.get:∀ {xs:List V} {us:List Value} {i:Nat} {x:V},dG xs us->xs[i]?=some x->∃ u,us[i]?=some u/\cY x u
 | _,_,_,_,.nil,e=>by simp at e
 | _,_,0,_,.cons r _,e=>by simp at e;subst e;exact ⟨_,rfl,r⟩
 | _,_,i+1,x,.cons _ t,e=>by
  obtain ⟨u,h1,h2⟩:=dG.get (i:=i) (x:=x) t (by simpa using e)
  exact ⟨u,by simpa using h1,h2⟩
theorem dG.set {x:V} {u:Value} (r:cY x u):∀ {xs:List V} {us:List Value} (i:Nat),dG xs us->dG (xs.set i x) (us.set i u)
 | _,_,_,.nil=>.nil
 | _,_,0,.cons _ t=>.cons r t
 | _,_,i+1,.cons q t=>.cons q (dG.set r i t)
theorem dG.append:∀ {xs ys:List V} {us ws:List Value},dG xs us->dG ys ws->dG (xs++ys) (us++ws)
 | _,_,_,_,.nil,s=>s
 | _,_,_,_,.cons r t,s=>.cons r (dG.append t s)
theorem dG.take:∀ {xs:List V} {us:List Value} (n:Nat),dG xs us->dG (xs.take n) (us.take n)
 | _,_,0,_=>.nil
 | _,_,_+1,.nil=>.nil
 | _,_,n+1,.cons r t=>.cons r (dG.take n t)
theorem dG.drop:∀ {xs:List V} {us:List Value} (n:Nat),dG xs us->dG (xs.drop n) (us.drop n)
 | _,_,0,r=>r
 | _,_,_+1,.nil=>.nil
 | _,_,n+1,.cons _ t=>dG.drop n t
def zNz:Option V->Option Value->Prop
 | some v,some u=>cY v u
 | none,none=>True
 | _,_=>False
def KV {κ:Type}:List (κ×V)->List (κ×Value)->Prop:=Paired fun (p:κ×V) (q:κ×Value)=>p.1=q.1/\cY p.2 q.2
def kV:Key->V
 | .inl i=>.int i
 | .inr x=>.str x
inductive HO where
 | lst (xs:List V)
 | tup (xs:List V)
 | dK (kvs:List (Key×V)) | dT (kvs:List (List Key×V))
 | set (S:Int->Bool) (n:Nat)
 | ins (C dx:Addr) (fs:List (Str×V))
 | own (x:Addr)
 | xd (fs:List (Str×V))
 | met (f x:Addr)
 | rng (lo hi:Int)
 | frz (o:Obj) (u:HO)
 | tbl (ps:Array Value)
 | ext (φ:Heap->Prop)
abbrev Hp:=Addr->Option HO
def upd (H:Hp) (a:Addr) (o:HO):Hp:=fun b=>if b=a then some o else H b
theorem aZ {H:Hp} {a:Addr} {o:HO}:upd H a o a=some o:=by unfold upd;rw [if_pos rfl]
theorem bC {H:Hp} {a b:Addr} {o:HO} (h:b≠a):upd H a o b=H b:=by unfold upd;rw [if_neg h]
theorem zMF {H:Hp} {a b:Addr} {o u:HO} (h:H a=some o) (h':H b=some u) (d:o≠u):a≠b:=by
 intro e;subst e;rw [h] at h';exact d (Option.some.inj h')
theorem bB {H:Hp} {a b:Addr} {o:HO} (h:H a=some o) (h':H b=none):a≠b:=by
 intro e;subst e;rw [h] at h';cases h'
section
variable (P:Program) (w:World)
def jZ (H:Hp) (h:Heap) (a:Addr):HO->Prop
 | .lst xs=>xs.length<=sizeLine/\∃ (its:List Value) (n:Nat),dG xs its/\h.get? a=some { cls:=.type "list", data:=.seq its.toArray n }
 | .tup xs=>xs.length<=sizeLine/\∃ its:List Value,dG xs its/\IsTup h a its.toArray
 | .dK kvs=>kvs.length<=sizeLine/\(a==sysModules)=false/\∃ vs,KV kvs vs/\h.DictOf (zFx P w) a vs
 | .dT kvs=>kvs.length<=sizeLine/\(a==sysModules)=false/\∃ xs:List (List Key×Addr×Value),
   Paired (fun (p:List Key×V) (q:List Key×Addr×Value)=>p.1=q.1/\H q.2.1=some (.tup (p.1.map kV))/\cY p.2 q.2.2) kvs xs/\
   ∃ o es ep,h.get? a=some o/\o.ExactDict/\o.data=.dict es ep/\es.toList=xs.map (entryOfKey (tupleKind (zFx P w)))/\(xs.map (·.1)).Nodup
 | .set S n=>h.SetOf (intKind P w) a S n
 | .ins C dx fs=>H dx=some (.own a)/\fs.length<=1000/\dx≠a/\h.get? a=some (PySem.W.instObj C dx)/\
   ∃ mA,h.Ns1 dx mA/\(∀ f,zNz (fs.lookup f) (mA f))/\PySem.Within mA (fs.map (·.1))
 | .own _=>∃ o,h.get? a=some o
 | .xd fs=>∃ mA,h.Ns1 a mA/\∀ f,zNz (fs.lookup f) (mA f)
 | .rng lo hi=>∃ t u v,h.get? a=some { cls:=.type "range", data:=.fields #[.int lo t,.int hi u,.int 1 v] }
 | .frz o u=>h.get? a=some o/\jZ H h a u
 | .tbl ps=>h.get? a=some { cls:=.none,data:=.fields ps }
 | .met f x=>h.get? a=some (PySem.W.methodObj (.ref f) (.ref x))
 | .ext φ=>φ h/\(∃ o,h.get? a=some o)/\∀ h1 h2:Heap,φ h1->(∀ o,h1.get? a=some o->h2.get? a=some o)->φ h2
def HOk (H:Hp) (h:Heap):Prop:=∀ a o,H a=some o->jZ P w H h a o
end
section
variable {P:Program} {w:World} {H H':Hp} {h h':Heap} {a:Addr} {o:HO}
theorem jZ.lt (x:jZ P w H h a o):a < h.objs.size:=by
 cases o with
 | lst xs=>obtain ⟨_,_,_,_,e⟩:=x;exact Heap.lt_size e
 | tup xs=>obtain ⟨_,_,_,p⟩:=x;exact p.lt
 | dK kvs=>obtain ⟨_,_,_,_,o,_,_,e,_⟩:=x;exact Heap.lt_size e
 | dT kvs=>obtain ⟨_,_,_,_,o,_,_,e,_⟩:=x;exact Heap.lt_size e
 | set S n=>obtain ⟨o,_,_,_,e,_⟩:=x;exact Heap.lt_size e
 | ins C dx fs=>obtain ⟨_,_,_,e,_⟩:=x;exact Heap.lt_size e
 | own y=>obtain ⟨_,e⟩:=x;exact Heap.lt_size e
 | xd fs=>obtain ⟨_,⟨_,_,_,e,_⟩,_⟩:=x;exact Heap.lt_size e
 | rng lo hi=>obtain ⟨_,_,_,e⟩:=x;exact Heap.lt_size e
 | frz ob u=>obtain ⟨e,_⟩:=x;exact Heap.lt_size e
 | tbl ps=>exact Heap.lt_size (show h.get? a=some _ from x)
 | met f y=>exact Heap.lt_size (show h.get? a=some _ from x)
 | ext φ=>obtain ⟨_,⟨_,e⟩,_⟩:=x;exact Heap.lt_size e
theorem Paired.mapP {α β:Type} {F G:α->β->Prop}:∀ {l₁:List α} {l₂:List β},Paired F l₁ l₂->(∀ a b,F a b->G a b)->Paired G l₁ l₂
 | _,_,.nil,_=>.nil
 | _,_,.cons r t,f=>.cons (f _ _ r) (Paired.mapP t f)
theorem jZ.stay (x:jZ P w H h a o) (k:∀ b u,(b=a∨H b=some (.own a))->h.get? b=some u->h'.get? b=some u)
  (ho:∀ b,H b=some (.own a)->H' b=some (.own a)) (ht:∀ b xs,H b=some (.tup xs)->H' b=some (.tup xs)):jZ P w H' h' a o:=by
 induction o with
 | lst xs=>obtain ⟨z,its,n,r,e⟩:=x;exact ⟨z,its,n,r,k _ _ (.inl rfl) e⟩
 | tup xs=>obtain ⟨z,its,r,ob,e,c⟩:=x;exact ⟨z,its,r,ob,k _ _ (.inl rfl) e,c⟩
 | dK kvs=>obtain ⟨z,y,vs,r,ob,es,ep,e,c⟩:=x;exact ⟨z,y,vs,r,ob,es,ep,k _ _ (.inl rfl) e,c⟩
 | dT kvs=>
  obtain ⟨z,y,xs,r,ob,es,ep,e,c⟩:=x
  exact ⟨z,y,xs,Paired.mapP r fun p q z=>⟨z.1,ht _ _ z.2.1,z.2.2⟩,ob,es,ep,k _ _ (.inl rfl) e,c⟩
 | set S n=>obtain ⟨ob,es,ep,t,e,c⟩:=x;exact ⟨ob,es,ep,t,k _ _ (.inl rfl) e,c⟩
 | ins C dx fs=>
  obtain ⟨d,z,ne,e,mA,⟨od,es,ep,e2,c⟩,r⟩:=x
  exact ⟨ho _ d,z,ne,k _ _ (.inl rfl) e,mA,⟨od,es,ep,k _ _ (.inr d) e2,c⟩,r⟩
 | own y=>obtain ⟨ob,e⟩:=x;exact ⟨ob,k _ _ (.inl rfl) e⟩
 | xd fs=>obtain ⟨mA,⟨od,es,ep,e,c⟩,r⟩:=x;exact ⟨mA,⟨od,es,ep,k _ _ (.inl rfl) e,c⟩,r⟩
 | rng lo hi=>obtain ⟨t,u,v,e⟩:=x;exact ⟨t,u,v,k _ _ (.inl rfl) e⟩
 | frz ob u ih=>obtain ⟨e,q⟩:=x;exact ⟨k _ _ (.inl rfl) e,ih q⟩
 | tbl ps=>
  have e:h.get? a=some { cls:=.none,data:=.fields ps }:=x
  show h'.get? a=some { cls:=.none,data:=.fields ps }
  exact k a _ (.inl rfl) e
 | met f y=>
  have e:h.get? a=some (PySem.W.methodObj (.ref f) (.ref y)):=x
  show h'.get? a=some (PySem.W.methodObj (.ref f) (.ref y))
  exact k a _ (.inl rfl) e
 | ext φ=>obtain ⟨p,⟨o,e⟩,st⟩:=x;exact ⟨st _ _ p fun o q=>k _ _ (.inl rfl) q,⟨o,k _ _ (.inl rfl) e⟩,st⟩
theorem HOk.lt (x:HOk P w H h) (e:H a=some o):a < h.objs.size:=(x a o e).lt
theorem HOk.fresh (x:HOk P w H h) (e:h.objs.size<=a):H a=none:=by
 cases q:H a with
 | none=>rfl
 | some u=>exact absurd (Nat.lt_of_lt_of_le (x.lt q) e) (Nat.lt_irrefl _)
theorem HOk.kept (x:HOk P w H h) (k:∀ b u,h.get? b=some u->h'.get? b=some u):HOk P w H h':=fun a o e=>
 (x a o e).stay (fun b u _ q=>k b u q) (fun _ q=>q) fun _ _ q=>q
theorem HOk.laid (x:HOk P w H h) (k:∀ b u,h.get? b=some u->h'.get? b=some u) (hp:h.objs.size<=a) (new:jZ P w (upd H a o) h' a o):HOk P w (upd H a o) h':=fun b u e=>by
 have hn:=x.fresh hp
 by_cases hb:b=a
 ·subst hb;rw [aZ] at e;cases e;exact new
 ·rw [bC hb] at e
  exact (x b u e).stay (fun c v _ q=>k c v q) (fun c q=>by rw [bC (bB q hn)];exact q) fun c xs q=>by rw [bC (bB q hn)];exact q
end
def Rd (H:Hp) (a:Addr) (u:HO):Prop:=H a=some u∨∃ o,H a=some (.frz o u)
theorem Rd.ok {P:Program} {w:World} {H:Hp} {h:Heap} {a:Addr} {u:HO} (r:Rd H a u) (x:HOk P w H h):jZ P w H h a u:=by
 rcases r with r | ⟨o,r⟩
 ·exact x a u r
 ·obtain ⟨_,q⟩:=x a _ r
  exact q
def Mut:Option HO->Prop
 | some (.lst _)=>True
 | some (.dK _)=>True
 | some (.dT _)=>True
 | some (.set _ _)=>True
 | some (.ins _ _ _)=>True
 | some (.ext _)=>True
 | _=>False
section
variable {P:Program} {w:World} {H:Hp} {h h':Heap} {x e:Addr} {o':HO}
theorem HOk.write (ok:HOk P w H h) (mu:Mut (H x)) (he:e=x∨H e=some (.own x)) (k:∀ b u,b≠e->h.get? b=some u->h'.get? b=some u) (heo:∃ u,h'.get? e=some u)
  (new:jZ P w (upd H x o') h' x o'):HOk P w (upd H x o') h':=fun b u q=>by
 have nown:∀ c y,H c=some (.own y)->c≠x:=fun c y r z=>by subst z;rw [r] at mu;exact mu
 have ntup:∀ c xs,H c=some (.tup xs)->c≠x:=fun c xs r z=>by subst z;rw [r] at mu;exact mu
 by_cases hb:b=x
 ·subst hb;rw [aZ] at q;cases q;exact new
 ·rw [bC hb] at q
  by_cases hbe:b=e
  ·have q':H b=some (.own x):=by
    rcases he with z | z
    ·exact absurd (hbe.trans z) hb
    ·rw [hbe];exact z
   rw [q] at q';cases q'
   obtain ⟨v,hv⟩:=heo
   exact ⟨v,by rw [hbe];exact hv⟩
  ·refine (ok b u q).stay (fun c v hc r=>k c v ?_ r) (fun c r=>by rw [bC (nown c b r)];exact r) fun c xs r=>by rw [bC (ntup c xs r)];exact r
   rcases hc with rfl | hc
   ·exact hbe
   ·rintro rfl
    rcases he with z | z
    ·exact nown c b hc z
    ·rw [hc] at z;cases z;exact hb rfl
end
structure Un (fs ex:List Addr) (H H':Hp) (h h':Heap):Prop where
 keep:∀ b o,h.get? b=some o->H b=none->b∉fs->b∉ex->h'.get? b=some o
 slot:∀ b o,h.get? b=some o->H b=none->b∈fs->b∉ex->∃ sl,h'.get? b=some { o with slots:=sl }
 free:∀ b o,h.get? b=some o->H b=none->b∉ex->H' b=none
 there:∀ b o,h.get? b=some o->b∉ex->∃ o',h'.get? b=some o'
 tups:∀ b xs,H b=some (.tup xs)->H' b=some (.tup xs)
 frzs:∀ b o u,H b=some (.frz o u)->H' b=some (.frz o u)
 tbls:∀ b ps,H b=some (.tbl ps)->∃ more,H' b=some (.tbl (ps++more))
section
variable {fs fs' ex ex':List Addr} {H H1 H2:Hp} {h h1 h2 h':Heap} {a x e:Addr} {o:HO}
theorem Un.any (u:Un fs ex H H1 h h1) {b:Addr} {ob:Obj} (q:h.get? b=some ob) (n:H b=none) (hx:b∉ex):∃ sl,h1.get? b=some { ob with slots:=sl }:=by
 by_cases hb:b∈fs
 ·exact u.slot b ob q n hb hx
 ·exact ⟨ob.slots,u.keep b ob q n hb hx⟩
theorem Un.kept (k:∀ b u,h.get? b=some u->h'.get? b=some u):Un fs ex H H h h':=
 ⟨fun b ob q _ _ _=>k b ob q,fun b ob q _ _ _=>⟨ob.slots,k b ob q⟩,fun _ _ _ n _=>n,fun b ob q _=>⟨ob,k b ob q⟩,fun _ _ q=>q,fun _ _ _ q=>q,fun _ ps q=>⟨#[],by rw [q];simp⟩⟩
theorem Un.refl:Un fs ex H H h h:=Un.kept fun _ _ q=>q
theorem Un.laid (k:∀ b u,h.get? b=some u->h'.get? b=some u) (hp:h.objs.size<=a) (hn:H a=none):Un fs ex H (upd H a o) h h' where
 keep:=fun b u q _ _ _=>k b u q
 slot:=fun b u q _ _ _=>⟨u.slots,k b u q⟩
 free:=fun b u q n _=>by rw [bC (Nat.ne_of_lt (Nat.lt_of_lt_of_le (Heap.lt_size q) hp))];exact n
 there:=fun b u q _=>⟨u,k b u q⟩
 tups:=fun b xs q=>by rw [bC (bB q hn)];exact q
 frzs:=fun b u xs q=>by rw [bC (bB q hn)];exact q
 tbls:=fun b ps q=>⟨#[],by rw [bC (bB q hn),q];simp⟩
theorem Un.write (mu:Mut (H x)) (he:e=x∨H e=some (.own x)) (k:∀ b u,b≠e->h.get? b=some u->h'.get? b=some u) (heo:∃ u,h'.get? e=some u):Un fs ex H (upd H x o) h h':=by
 have hx:∀ b,H b=none->b≠x:=fun b n z=>by subst z;rw [n] at mu;exact mu
 have hb:∀ b,H b=none->b≠e:=fun b n z=>by
  subst z
  rcases he with r | r
  ·exact hx b n r
  ·rw [n] at r;cases r
 have hm:∀ b u,H b=some u->¬ Mut (some u)->b≠x:=fun b u q nm z=>by subst z;rw [q] at mu;exact nm mu
 refine ⟨fun b u q n _ _=>k b u (hb b n) q,fun b u q n _ _=>⟨u.slots,k b u (hb b n) q⟩,fun b u q n _=>by rw [bC (hx b n)];exact n,fun b u q _=>?_,
  fun b xs q=>by rw [bC (hm b _ q fun z=>z)];exact q,fun b u xs q=>by rw [bC (hm b _ q fun z=>z)];exact q,fun b ps q=>⟨#[],by rw [bC (hm b _ q fun z=>z),q];simp⟩⟩
 by_cases hbe:b=e
 ·subst hbe;exact heo
 ·exact ⟨u,k b u hbe q⟩
end
def trk (h:Heap) (H:Hp):List Addr:=(List.range h.objs.size).filter fun a=>(H a).isSome
def zGa (h:Heap) (H:Hp):Heap:=PySem.W.hideAll h (trk h H)
theorem zFu (h:Heap) (H:Hp):(zGa h H).objs.size=h.objs.size:=PySem.W.hideAll_size _ _
theorem zGb {h:Heap} {H:Hp} {b:Addr} {o:Obj} (e:h.get? b=some o) (n:H b=none):(zGa h H).get? b=some o:=
 PySem.W.hideAll_get _ e fun hm=>by
  have q:(H b).isSome=true:=(List.mem_filter.mp hm).2
  rw [n] at q;simp at q
theorem zJk {h:Heap} {H:Hp} {b:Addr} {o:Obj} (e:(zGa h H).get? b=some o):h.get? b=some o/\H b=none:=by
 have e':h.get? b=some o:=PySem.W.of_hideAll (trk h H) e
 refine ⟨e',?_⟩
 cases q:H b with
 | none=>rfl
 | some x=>
  have hm:b∈trk h H:=List.mem_filter.mpr ⟨List.mem_range.mpr (Heap.lt_size e'),by simp [q]⟩
  have z:(zGa h H).get? b=none:=PySem.W.hideAll_none (trk h H) hm
  rw [z] at e;cases e
def zJd (g h:Heap) (L:Addr):List (Addr×Obj):=(List.range h.objs.size).filterMap fun a=>if a=L∨(g.get? a).isSome=true then none else (h.get? a).map fun o=>(a,o)
def rest (g h:Heap) (L d:Addr):List (Addr×Obj):=(zJd g h L).filter fun p=>decide (p.1≠d)
end L2
namespace L2
open PySem PySem.Spec PyProof.Rows
structure Mod (K:PySem.W.Frag) (mg:Str->Option Value) (base:Heap):Prop where
 kin:K.In base
 glob:base.Ns mainGlobals mg
 blt:∃ mb,base.Ns builtinsNs mb/\∀ x:Str,x ≠ "__name__" -> mb x=bootBuiltins x
 nolimit:base.NoLimit
structure Cx where
 prog:Program
 w:World
 K:PySem.W.Frag
 mg:Str->Option Value
 base:Heap
 A:Around
 N:List Str
 s₀:Shared
 H₀:Hp
 env:Env
 outer:List Env
 stack:List Env
 ex:List Addr
 fn:Str->Bool
 calm:Bool
 pn:List (Addr×Obj)
 xe:Value->Shared->Prop
def frs (l:List Env):List Addr:=l.filterMap (·.frame)
abbrev Cx.fs (X:Cx):List Addr:=frs X.outer
def Vis (sc:Scope) (x:Str):Prop:=sc.names.lookup x=some .local∨sc.names.lookup x=some .cell∨sc.names.lookup x=some .free
def Loc (sc:Scope) (x:Str):Prop:=sc.names.lookup x=some .local∨sc.names.lookup x=some .cell
def zOa (env:Env) (h:Heap) (m:Str->Option Value) (x:Str) (u:Value):Prop:=
 (env.kindOf x=some .local/\m x=some u)∨((env.kindOf x=some .cell∨env.kindOf x=some .free)/\∃ c,env.cells.lookup x=some c/\h.IsCell c (some u))
structure Cx.Ok (X:Cx):Prop where
 mod:Mod X.K X.mg X.base
 kind:X.env.scope.kind=.function
 glob:X.env.globals=mainGlobals
 blt:X.env.builtins=builtinsNs
 above:X.s₀.heap.objs.size<=X.env.locals
 inj:∀ x y c,X.env.cells.lookup x=some c->X.env.cells.lookup y=some c->x=y
 has:∀ x,(X.env.kindOf x=some .cell∨X.env.kindOf x=some .free)->∃ c,X.env.cells.lookup x=some c
 cab:∀ x c,X.fn x=true->X.env.cells.lookup x=some c->X.s₀.heap.objs.size<=c
 hd:X.calm=true->X.A.handled=none
 frames:X.A.frames=some X.stack
 stk:X.stack=X.outer∨(X.stack=X.env::X.outer/\X.env.frame=some X.env.locals)
 exf:∀ b∈X.ex,b≠X.env.locals/\∀ x c,X.env.cells.lookup x=some c->c≠b
 bs:∀ b o,X.base.get? b=some o->X.s₀.heap.get? b=some o/\X.H₀ b=none
 bsz:X.base.objs.size<=X.s₀.heap.objs.size
 noex:∀ b o,X.base.get? b=some o->b∉X.ex
 exfs:∀ b∈X.ex,b∉X.fs
 funs:X.s₀.heap.FunFrames X.base X.outer
 frf:∀ b∈X.fs,X.H₀ b=none
structure Inv (X:Cx) (pins:List (Addr×Obj)) (σ:List (Option V)) (H:Hp) (s:Shared):Prop where
 ok:X.Ok
 os:s.os=X.s₀.os
 bare:AllBare s.gens
 base:Un X.fs X.ex X.H₀ H X.s₀.heap s.heap
 loc:∃ m,s.heap.Ns X.env.locals m/\∀ (i:Nat) (x:Str) (v:V),X.N[i]?=some x->σ[i]?=some (some v)->Vis X.env.scope x->∃ u,cY v u/\zOa X.env s.heap m x u
 cell:∀ x c,X.env.cells.lookup x=some c->∃ v,s.heap.IsCell c v
 free:H X.env.locals=none
 freeC:∀ x c,X.env.cells.lookup x=some c->H c=none
 pin:∀ p∈X.pn++pins,s.heap.get? p.1=some p.2/\H p.1=none/\p.1≠X.env.locals/\p.1∉X.fs/\∀ v,p.2.data≠.cell v
 hok:HOk X.prog X.w H s.heap
 len:σ.length=X.N.length
section
variable {X:Cx} {pins:List (Addr×Obj)} {σ:List (Option V)} {H H':Hp} {s:Shared} {h':Heap}
theorem Cx.Ok.nofr (ok:X.Ok) {b:Addr} {o:Obj} (e:X.base.get? b=some o):b∉X.fs:=fun hb=>by
 have:=(ok.funs.mem hb).1
 rw [e] at this;cases this
theorem Inv.bs (I:Inv X pins σ H s):∀ b o,X.base.get? b=some o->s.heap.get? b=some o/\H b=none:=fun b o e=>
 ⟨I.base.keep b o (I.ok.bs b o e).1 (I.ok.bs b o e).2 (I.ok.nofr e) (I.ok.noex b o e),I.base.free b o (I.ok.bs b o e).1 (I.ok.bs b o e).2 (I.ok.noex b o e)⟩
theorem Inv.bk (I:Inv X pins σ H s):∀ b o,X.base.get? b=some o->s.heap.get? b=some o:=fun b o e=>(I.bs b o e).1
theorem Inv.mod (I:Inv X pins σ H s):Mod X.K X.mg X.base:=I.ok.mod
theorem Inv.kIn (I:Inv X pins σ H s):X.K.In s.heap:=I.ok.mod.kin.keeps I.bk
theorem Inv.lt (I:Inv X pins σ H s):X.env.locals < s.heap.objs.size:=let ⟨_,hn,_⟩:=I.loc;hn.lt
theorem Inv.sz (I:Inv X pins σ H s):X.s₀.heap.objs.size<=s.heap.objs.size:=Nat.le_trans I.ok.above (Nat.le_of_lt I.lt)
theorem Inv.nofs (I:Inv X pins σ H s) {a:Addr} (h:s.heap.objs.size<=a):a∉X.fs:=fun hb=>by
 obtain ⟨_,o,ho,_⟩:=I.ok.funs.mem hb
 exact absurd (Nat.lt_of_lt_of_le (Heap.lt_size ho) (Nat.le_trans I.sz h)) (Nat.lt_irrefl _)
theorem Inv.cne (I:Inv X pins σ H s):∀ x c,X.env.cells.lookup x=some c->c≠X.env.locals:=fun x c e z=>by
 obtain ⟨v,o,ho,hd⟩:=I.cell x c e
 obtain ⟨m,⟨o',es,ep,ho',hd',_⟩,_⟩:=I.loc
 rw [z,ho'] at ho;cases ho;rw [hd'] at hd;cases hd
theorem Inv.funs (I:Inv X pins σ H s):s.heap.FunFrames X.base X.outer:=by
 have all:∀ (l:List Env),(∀ b∈frs l,b∈X.fs)->X.s₀.heap.FunFrames X.base l->s.heap.FunFrames X.base l:=by
  intro l
  induction l with
  | nil=>intro _ _;trivial
  | cons env r ih=>
   intro hs hl
   obtain ⟨hk,⟨L,o,hf,hn,ho,hd⟩,hr⟩:=hl
   have hL:L∈X.fs:=hs L (by unfold frs;rw [List.filterMap_cons,hf];exact List.mem_cons_self)
   obtain ⟨sl,e⟩:=I.base.slot L o ho (I.ok.frf L hL) hL fun z=>I.ok.exfs L z hL
   exact ⟨hk,⟨L,_,hf,hn,e,hd⟩,ih (fun b hb=>hs b (by unfold frs;rw [List.filterMap_cons,hf];exact List.mem_cons_of_mem _ hb)) hr⟩
 exact all X.outer (fun _ hb=>hb) I.ok.funs
theorem Inv.stack (I:Inv X pins σ H s):s.heap.FunFrames X.base X.stack:=by
 rcases I.ok.stk with e | ⟨e,hf⟩
 ·rw [e];exact I.funs
 ·rw [e]
  obtain ⟨m,hn,_⟩:=I.loc
  refine .cons (by rw [I.ok.kind];decide) hf hn ?_ I.funs
  exact Heap.get?_none_of_le (Nat.le_trans I.ok.bsz I.ok.above)
theorem Inv.stkSub (I:Inv X pins σ H s):∀ b∈frs X.stack,b∈X.env.locals::X.fs:=fun b hb=>by
 rcases I.ok.stk with e | ⟨e,hf⟩
 ·rw [e] at hb;exact List.mem_cons_of_mem _ hb
 ·rw [e] at hb
  unfold frs at hb
  rw [List.filterMap_cons,hf] at hb
  exact hb
theorem Inv.stkFree (I:Inv X pins σ H s):∀ b∈frs X.stack,H b=none:=fun b hb=>by
 rcases List.mem_cons.mp (I.stkSub b hb) with e | hb
 ·rw [e];exact I.free
 ·obtain ⟨_,o,ho,_⟩:=I.ok.funs.mem hb
  exact I.base.free b o ho (I.ok.frf b hb) fun z=>I.ok.exfs b z hb
theorem Inv.step {g':Array GenState} {t':Nat} {d':Drawn} {ch:List Addr} (I:Inv X pins σ H s)
  (hch:∀ b∈ch,(b∈X.ex∨X.s₀.heap.objs.size<=b)/\b≠X.env.locals/\(∀ x c,X.env.cells.lookup x=some c->c≠b)/\∀ p∈X.pn++pins,p.1≠b)
  (keep:∀ b o,b≠X.env.locals->b∉X.fs->b∉ch->s.heap.get? b=some o->H b=none->h'.get? b=some o)
  (slot:∀ b o,b≠X.env.locals->b∈X.fs->b∉ch->s.heap.get? b=some o->H b=none->∃ sl,h'.get? b=some { o with slots:=sl }) (free:∀ b o,b∉ch->s.heap.get? b=some o->H b=none->H' b=none)
  (there:∀ b o,b∉ch->s.heap.get? b=some o->∃ o',h'.get? b=some o')
  (tups:∀ b xs,H b=some (.tup xs)->H' b=some (.tup xs)) (frzs:∀ b o u,H b=some (.frz o u)->H' b=some (.frz o u)) (tbls:∀ b ps,H b=some (.tbl ps)->∃ more,H' b=some (.tbl (ps++more)))
  (ns:∀ m,s.heap.Ns X.env.locals m->h'.Ns X.env.locals m) (hok:HOk X.prog X.w H' h') (hg:AllBare g'):
  Inv X pins σ H' { s with heap:=h',gens:=g',drawn:=d',toks:=t' }:=by
 have neL:∀ b o,X.s₀.heap.get? b=some o->b≠X.env.locals:=fun b o e=>Nat.ne_of_lt (Nat.lt_of_lt_of_le (Heap.lt_size e) I.ok.above)
 have neC:∀ b o,X.s₀.heap.get? b=some o->b∉X.ex->b∉ch:=fun b o e hx hb=>by
  rcases (hch b hb).1 with z | z
  ·exact hx z
  ·exact absurd (Nat.lt_of_lt_of_le (Heap.lt_size e) z) (Nat.lt_irrefl _)
 have cellK:∀ x c,X.env.cells.lookup x=some c->∀ v,s.heap.IsCell c v->h'.IsCell c v:=fun x c e v ⟨o,ho,hd⟩=>by
  have nch:c∉ch:=fun z=>(hch c z).2.2.1 x c e rfl
  by_cases hc:c∈X.fs
  ·obtain ⟨sl,q⟩:=slot c o (I.cne x c e) hc nch ho (I.freeC x c e)
   exact ⟨_,q,hd⟩
  ·exact ⟨o,keep c o (I.cne x c e) hc nch ho (I.freeC x c e),hd⟩
 refine ⟨I.ok,I.os,hg,⟨fun b o e n hb hx=>?_,fun b o e n hb hx=>?_,fun b o e n hx=>?_,fun b o e hx=>?_,fun b xs e=>tups b xs (I.base.tups b xs e),fun b o xs e=>frzs b o xs (I.base.frzs b o xs e),fun b ps e=>?_⟩,?_,fun x c e=>?_,?_,fun x c e=>?_,fun p hp=>?_,hok,I.len⟩
 ·exact keep b o (neL b o e) hb (neC b o e hx) (I.base.keep b o e n hb hx) (I.base.free b o e n hx)
 ·obtain ⟨sl,e1⟩:=I.base.slot b o e n hb hx
  obtain ⟨sl',e2⟩:=slot b _ (neL b o e) hb (neC b o e hx) e1 (I.base.free b o e n hx)
  exact ⟨sl',e2⟩
 ·obtain ⟨o',e1⟩:=I.base.there b o e hx
  exact free b o' (neC b o e hx) e1 (I.base.free b o e n hx)
 ·obtain ⟨o',e1⟩:=I.base.there b o e hx
  exact there b o' (neC b o e hx) e1
 ·obtain ⟨m1,e1⟩:=I.base.tbls b ps e
  obtain ⟨m2,e2⟩:=tbls b _ e1
  exact ⟨m1++m2,by rw [e2,Array.append_assoc]⟩
 ·obtain ⟨m,hn,hl⟩:=I.loc
  refine ⟨m,ns m hn,fun i x v e1 e2 e3=>?_⟩
  obtain ⟨u,r,l⟩:=hl i x v e1 e2 e3
  refine ⟨u,r,?_⟩
  rcases l with l | ⟨k,c,e,z⟩
  ·exact .inl l
  ·exact .inr ⟨k,c,e,cellK x c e _ z⟩
 ·obtain ⟨v,z⟩:=I.cell x c e
  exact ⟨v,cellK x c e v z⟩
 ·obtain ⟨m,⟨o,_,_,ho,_⟩,_⟩:=I.loc
  exact free _ o (fun z=>(hch _ z).2.1 rfl) ho I.free
 ·obtain ⟨v,o,ho,hd⟩:=I.cell x c e
  exact free c o (fun z=>(hch c z).2.2.1 x c e rfl) ho (I.freeC x c e)
 ·obtain ⟨e,n,ne,nf,d⟩:=I.pin p hp
  have nch:p.1∉ch:=fun z=>(hch p.1 z).2.2.2 p hp rfl
  exact ⟨keep p.1 p.2 ne nf nch e n,free p.1 p.2 nch e n,ne,nf,d⟩
theorem Inv.un {t':Nat} (I:Inv X pins σ H s) (u:Un X.fs [] H H' s.heap h') (hok:HOk X.prog X.w H' h'):Inv X pins σ H' { s with heap:=h',toks:=t' }:=by
 obtain ⟨m,⟨o,es,ep,ho,r⟩,_⟩:=id I.loc
 obtain ⟨sl,hL⟩:=u.any ho I.free (by simp)
 exact I.step (g':=s.gens) (d':=s.drawn) (ch:=[]) (fun _ z=>nomatch z) (fun b o _ hb _ e n=>u.keep b o e n hb (by simp)) (fun b o _ hb _ e n=>u.slot b o e n hb (by simp)) (fun b o _ e n=>u.free b o e n (by simp)) (fun b o _ e=>u.there b o e (by simp)) u.tups u.frzs u.tbls (fun m' hm=>by
  obtain ⟨o',es',ep',ho',r'⟩:=hm
  rw [ho] at ho';cases ho'
  exact ⟨_,es',ep',hL,r'⟩) hok I.bare
theorem Inv.call {g':Array GenState} {t':Nat} {d':Drawn} {ch:List Addr} (I:Inv X pins σ H s) (u:Un (frs X.stack) ch H H' s.heap h') (hok:HOk X.prog X.w H' h') (hg:AllBare g')
  (hch:∀ b∈ch,(b∈X.ex∨X.s₀.heap.objs.size<=b)/\b≠X.env.locals/\(∀ x c,X.env.cells.lookup x=some c->c≠b)/\∀ p∈X.pn++pins,p.1≠b):
  Inv X pins σ H' { s with heap:=h',gens:=g',drawn:=d',toks:=t' }:=by
 obtain ⟨m,⟨o,es,ep,ho,r⟩,_⟩:=id I.loc
 obtain ⟨sl,hL⟩:=u.any ho I.free fun z=>(hch _ z).2.1 rfl
 exact I.step (ch:=ch) hch (fun b o hL hb hc e n=>u.keep b o e n (fun z=>(List.mem_cons.mp (I.stkSub b z)).elim hL hb) hc) (fun b o _ _ hc e n=>u.any e n hc) (fun b o hc e n=>u.free b o e n hc) (fun b o hc e=>u.there b o e hc) u.tups u.frzs u.tbls (fun m' hm=>by
  obtain ⟨o',es',ep',ho',r'⟩:=hm
  rw [ho] at ho';cases ho'
  exact ⟨_,es',ep',hL,r'⟩) hok hg
theorem Inv.turned {t':Nat} {it:Addr} (I:Inv X pins σ H s) (k:∀ b o,b≠it->s.heap.get? b=some o->h'.get? b=some o) (hn:H it=none) (hL:it≠X.env.locals)
  (h1:it∈X.ex∨X.s₀.heap.objs.size<=it) (h2:∀ x c,X.env.cells.lookup x=some c->c≠it) (h3:∀ p∈X.pn++pins,p.1≠it):Inv X pins σ H { s with heap:=h',toks:=t' }:=by
 have nit:∀ b u,H b=some u->b≠it:=fun b u e z=>by rw [z,hn] at e;cases e
 refine I.step (g':=s.gens) (d':=s.drawn) (ch:=[it]) (fun b hb=>?_) (fun b o _ _ hc e _=>k b o (fun z=>hc (by simp [z])) e) (fun b o _ _ hc e _=>⟨o.slots,k b o (fun z=>hc (by simp [z])) e⟩) (fun _ _ _ _ n=>n)
  (fun b o hc e=>⟨o,k b o (fun z=>hc (by simp [z])) e⟩) (fun _ _ e=>e) (fun _ _ _ e=>e) (fun b ps e=>⟨#[],by rw [e];simp⟩) (fun m hm=>?_) (fun b u e=>?_) I.bare
 ·have e:b=it:=by simpa using hb
  subst e
  exact ⟨h1,hL,h2,h3⟩
 ·obtain ⟨o,es,ep,ho,r⟩:=hm
  exact ⟨o,es,ep,k _ o (Ne.symm hL) ho,r⟩
 ·refine (I.hok b u e).stay (fun c v hc q=>k c v ?_ q) (fun _ q=>q) fun _ _ q=>q
  rcases hc with z | z
  ·rw [z];exact nit b u e
  ·exact nit c _ z
theorem Inv.tok (I:Inv X pins σ H s) (t:Nat):Inv X pins σ H { s with toks:=t }:=I.un (h':=s.heap) (t':=t) Un.refl I.hok
theorem Inv.kept {t':Nat} (I:Inv X pins σ H s) (k:∀ b u,s.heap.get? b=some u->h'.get? b=some u):Inv X pins σ H { s with heap:=h',toks:=t' }:=I.un (Un.kept k) (I.hok.kept k)
theorem Inv.laid {a:Addr} {o:HO} {t':Nat} (I:Inv X pins σ H s) (k:∀ b u,s.heap.get? b=some u->h'.get? b=some u) (hp:s.heap.objs.size<=a) (new:jZ X.prog X.w (upd H a o) h' a o):
  Inv X pins σ (upd H a o) { s with heap:=h',toks:=t' }:=I.un (Un.laid k hp (I.hok.fresh hp)) (I.hok.laid k hp new)
theorem Inv.write {x e:Addr} {o:HO} {t':Nat} (I:Inv X pins σ H s) (mu:Mut (H x)) (he:e=x∨H e=some (.own x)) (k:∀ b u,b≠e->s.heap.get? b=some u->h'.get? b=some u) (heo:∃ u,h'.get? e=some u)
  (new:jZ X.prog X.w (upd H x o) h' x o):Inv X pins σ (upd H x o) { s with heap:=h',toks:=t' }:=I.un (Un.write mu he k heo) (I.hok.write mu he k heo new)
theorem Inv.pins_of {pins':List (Addr×Obj)} (I:Inv X pins σ H s) (h:∀ p∈pins',s.heap.get? p.1=some p.2/\H p.1=none/\p.1≠X.env.locals/\p.1∉X.fs/\∀ v,p.2.data≠.cell v):Inv X pins' σ H s:=
 ⟨I.ok,I.os,I.bare,I.base,I.loc,I.cell,I.free,I.freeC,fun p hp=>(List.mem_append.mp hp).elim (fun z=>I.pin p (List.mem_append_left _ z)) (h p),I.hok,I.len⟩
theorem xS {N:List Str} (hN:N.Nodup) {i j:Nat} {x:Str} (a:N[i]?=some x) (b:N[j]?=some x):i=j:=by
 obtain ⟨h1,e1⟩:=List.getElem?_eq_some_iff.mp a
 obtain ⟨h2,e2⟩:=List.getElem?_eq_some_iff.mp b
 exact (List.getElem_inj hN).mp (e1.trans e2.symm)
theorem zV {M:Model} {A:Around} {E:Value->Shared->Prop} {i:Nat} {x:Str} {v:V} {u:Value} {Q:Unit->Shared->Prop} (I:Inv X pins σ H s) (hN:X.N.Nodup) (hi:X.N[i]?=some x) (hx:Loc X.env.scope x) (r:cY v u)
  (h:∀ s',Inv X pins (σ.set i (some v)) H s'->(∃ a,Heap.SameBut a s.heap s'.heap/\(a=X.env.locals∨X.env.cells.lookup x=some a))->Q () s') (hf:X.fn x=true∨X.env.scope.names.lookup x=some .local:=by first | exact .inl rfl | exact .inr rfl | assumption):wpAny M A (storeName X.env x u) Q E s:=by
 obtain ⟨m,hn,hl⟩:=id I.loc
 have hcls:(X.env.scope.kind==.class || (X.env.scope.kind==.module && X.env.locals != X.env.globals))=false:=by rw [I.ok.kind];rfl
 have hiσ:i < σ.length:=by rw [I.len];exact (List.getElem?_eq_some_iff.mp hi).1
 have cne:=I.cne
 have tracked:∀ {a:Addr} {h':Heap},(∃ o,s.heap.get? a=some o/\H a=none)->Heap.SameBut a s.heap h'->HOk X.prog X.w H h':=fun {a h'} ha hs b ob e=>by
  obtain ⟨_,_,hfree⟩:=ha
  refine (I.hok b ob e).stay (fun c w' hc q=>(hs.2 c ?_).trans q) (fun _ q=>q) fun _ _ q=>q
  rintro rfl
  rcases hc with rfl | hc
  ·rw [hfree] at e;cases e
  ·rw [hfree] at hc;cases hc
 rcases hx with hk | hk
 ·refine wpAny_storeName_local hk hn (fun h' hn' hs=>?_) hcls
  obtain ⟨oL,_,_,hoL,_⟩:=id hn
  refine h _ ⟨I.ok,I.os,I.bare,⟨fun b o e n hb hx=>?_,fun b o e n hb hx=>?_,I.base.free,fun b o e hx=>?_,I.base.tups,I.base.frzs,I.base.tbls⟩,⟨_,hn',fun j y v' e1 e2 e3=>?_⟩,fun y c e=>?_,I.free,I.freeC,fun p hp=>?_,tracked ⟨oL,hoL,I.free⟩ hs,by simpa using I.len⟩ ⟨_,hs,.inl rfl⟩
  ·exact (hs.2 b (Nat.ne_of_lt (Nat.lt_of_lt_of_le (Heap.lt_size e) I.ok.above))).trans (I.base.keep b o e n hb hx)
  ·obtain ⟨sl,e1⟩:=I.base.slot b o e n hb hx
   exact ⟨sl,(hs.2 b (Nat.ne_of_lt (Nat.lt_of_lt_of_le (Heap.lt_size e) I.ok.above))).trans e1⟩
  ·obtain ⟨o',e1⟩:=I.base.there b o e hx
   exact ⟨o',(hs.2 b (Nat.ne_of_lt (Nat.lt_of_lt_of_le (Heap.lt_size e) I.ok.above))).trans e1⟩
  ·by_cases hj:j=i
   ·subst hj
    rw [hi] at e1;cases e1
    rw [List.getElem?_set_self hiσ] at e2
    cases e2
    exact ⟨u,r,.inl ⟨hk,by simp⟩⟩
   ·rw [List.getElem?_set_ne (Ne.symm hj)] at e2
    obtain ⟨u',r',q⟩:=hl j y v' e1 e2 e3
    refine ⟨u',r',?_⟩
    rcases q with ⟨k,e⟩ | ⟨k,c,e,z⟩
    ·refine .inl ⟨k,?_⟩
     have:y≠x:=fun e=>hj (xS hN e1 (e ▸ hi))
     simp [this,e]
    ·exact .inr ⟨k,c,e,z.sameBut hs (cne y c e)⟩
  ·obtain ⟨w',z⟩:=I.cell y c e
   exact ⟨w',z.sameBut hs (cne y c e)⟩
  ·obtain ⟨e,n,ne,nf,d⟩:=I.pin p hp
   exact ⟨(hs.2 p.1 ne).trans e,n,ne,nf,d⟩
 ·have hfn:X.fn x=true:=by
   rcases hf with z | z
   ·exact z
   ·rw [z] at hk;cases hk
  obtain ⟨c,hc⟩:=I.ok.has x (.inl hk)
  obtain ⟨w',z⟩:=I.cell x c hc
  refine wpAny_storeName_cell I.ok.kind hk hc z (fun h' hc' hs=>?_)
  obtain ⟨oc,hoc,hocd⟩:=id z
  refine h { s with heap:=h' } ⟨I.ok,I.os,I.bare,⟨fun b o e n hb hx=>?_,fun b o e n hb hx=>?_,I.base.free,fun b o e hx=>?_,I.base.tups,I.base.frzs,I.base.tbls⟩,⟨m,hn.sameBut hs (Ne.symm (cne x c hc)),fun j y v' e1 e2 e3=>?_⟩,fun y c' e=>?_,I.free,I.freeC,fun p hp=>?_,tracked ⟨oc,hoc,I.freeC x c hc⟩ hs,by simpa using I.len⟩ ⟨c,hs,.inr hc⟩
  ·exact (hs.2 b (Nat.ne_of_lt (Nat.lt_of_lt_of_le (Heap.lt_size e) (I.ok.cab x c hfn hc)))).trans (I.base.keep b o e n hb hx)
  ·obtain ⟨sl,e1⟩:=I.base.slot b o e n hb hx
   exact ⟨sl,(hs.2 b (Nat.ne_of_lt (Nat.lt_of_lt_of_le (Heap.lt_size e) (I.ok.cab x c hfn hc)))).trans e1⟩
  ·obtain ⟨o',e1⟩:=I.base.there b o e hx
   exact ⟨o',(hs.2 b (Nat.ne_of_lt (Nat.lt_of_lt_of_le (Heap.lt_size e) (I.ok.cab x c hfn hc)))).trans e1⟩
  ·by_cases hj:j=i
   ·subst hj
    rw [hi] at e1;cases e1
    rw [List.getElem?_set_self hiσ] at e2
    cases e2
    exact ⟨u,r,.inr ⟨.inl hk,c,hc,hc'⟩⟩
   ·rw [List.getElem?_set_ne (Ne.symm hj)] at e2
    obtain ⟨u',r',q⟩:=hl j y v' e1 e2 e3
    refine ⟨u',r',?_⟩
    rcases q with q | ⟨k,c',e,z'⟩
    ·exact .inl q
    ·refine .inr ⟨k,c',e,z'.sameBut hs ?_⟩
     rintro rfl
     exact hj (xS hN e1 (I.ok.inj _ _ _ e hc ▸ hi))
  ·by_cases hcc:c'=c
   ·subst hcc;exact ⟨_,hc'⟩
   ·obtain ⟨w2,z2⟩:=I.cell y c' e
    exact ⟨w2,z2.sameBut hs hcc⟩
  ·obtain ⟨e,n,ne,nf,d⟩:=I.pin p hp
   refine ⟨(hs.2 p.1 ?_).trans e,n,ne,nf,d⟩
   intro q
   rw [q,hoc] at e
   have q':oc=p.2:=Option.some.inj e
   exact d w' (by rw [<-q'];exact hocd)
theorem oK {M:Model} {A:Around} {E:Value->Shared->Prop} {i:Nat} {x:Str} {v:V} {u:Value} {Q:Unit->Shared->Prop} (I:Inv X pins σ H s) (hN:X.N.Nodup) (hi:X.N[i]?=some x) (hx:Loc X.env.scope x) (r:cY v u)
  (h:∀ s',Inv X pins (σ.set i (some v)) H s'->Q () s') (hf:X.fn x=true∨X.env.scope.names.lookup x=some .local:=by first | exact .inl rfl | exact .inr rfl | assumption):wpAny M A (storeName X.env x u) Q E s:=
 zV I hN hi hx r (fun s' I' _=>h s' I') hf
theorem Inv.call' {s':Shared} {ch:List Addr} (I:Inv X pins σ H s) (ho:s'.os=s.os) (u:Un (frs X.stack) ch H H' s.heap s'.heap) (hok:HOk X.prog X.w H' s'.heap) (hg:AllBare s'.gens)
  (hch:∀ b∈ch,(b∈X.ex∨X.s₀.heap.objs.size<=b)/\b≠X.env.locals/\(∀ x c,X.env.cells.lookup x=some c->c≠b)/\∀ p∈X.pn++pins,p.1≠b):Inv X pins σ H' s':=by
 obtain ⟨h',g',d',t',o'⟩:=s'
 have e:o'=s.os:=ho
 subst e
 exact I.call (g':=g') (t':=t') (d':=d') u hok hg hch
end
abbrev XK:=Value->Option Addr->Hp->Prop
abbrev St:=List (Option V)
abbrev VK:=V->Hp->Prop
abbrev TE:=St->Hp->VK->Prop
abbrev TT:=St->Hp->(Bool->Hp->Prop)->Prop
abbrev TA:=St->Hp->(List V->Hp->Prop)->Prop
structure Ends where
 nx:St->Hp->Prop
 rt:VK
 bk:St->Hp->Prop:=fun _ _=>False
 ct:St->Hp->Prop:=fun _ _=>False
abbrev TS:=Ends->St->Hp->Prop
def EP (X:Cx) (pins:List (Addr×Obj)) (σ:St) (Q:VK) (u:Value) (s':Shared):Prop:=∃ v H',Inv X pins σ H' s'/\cY v u/\Q v H'
def TP (X:Cx) (pins:List (Addr×Obj)) (σ:St) (Q:Bool->Hp->Prop) (b:Bool) (s':Shared):Prop:=∃ H',Inv X pins σ H' s'/\Q b H'
def AP (X:Cx) (pins:List (Addr×Obj)) (σ:St) (Q:List V->Hp->Prop) (us:List Value) (s':Shared):Prop:=∃ vs H',Inv X pins σ H' s'/\dG vs us/\Q vs H'
def SP (X:Cx) (pins:List (Addr×Obj)) (D:Ends) (f:Flow) (s':Shared):Prop:=
 match f with
 | .next=>∃ σ' H',Inv X pins σ' H' s'/\D.nx σ' H'
 | .brk=>∃ σ' H',Inv X pins σ' H' s'/\D.bk σ' H'
 | .cont=>∃ σ' H',Inv X pins σ' H' s'/\D.ct σ' H'
 | .ret u=>∃ v σ' H',Inv X pins σ' H' s'/\cY v u/\D.rt v H'
def PE (X:Cx) (e:Expr) (t:TE):Prop:=
 ∀ (pins:List (Addr×Obj)) (s:Shared) (σ:St) (H:Hp) (Q:VK),Inv X pins σ H s->t σ H Q->wpAny (model X.prog X.w) X.A (eval e X.env) (EP X pins σ Q) X.xe s
def PT (X:Cx) (e:Expr) (t:TT):Prop:=
 ∀ (pins:List (Addr×Obj)) (s:Shared) (σ:St) (H:Hp) (Q:Bool->Hp->Prop),Inv X pins σ H s->t σ H Q->wpAny (model X.prog X.w) X.A (isTrue e X.env (eval e X.env)) (TP X pins σ Q) X.xe s
def PW (X:Cx) (e:Expr) (t:TT):Prop:=
 ∀ (whole:Sem Value) (pins:List (Addr×Obj)) (s:Shared) (σ:St) (H:Hp) (Q:Bool->Hp->Prop),Inv X pins σ H s->t σ H Q->wpAny (model X.prog X.w) X.A (isTrue e X.env whole) (TP X pins σ Q) X.xe s
theorem PW.pt {X:Cx} {e:Expr} {t:TT} (h:PW X e t):PT X e t:=h _
def PA (X:Cx) (es:List Expr) (t:TA):Prop:=
 ∀ (pos:Pos) (pins:List (Addr×Obj)) (s:Shared) (σ:St) (H:Hp) (Q:List V->Hp->Prop),Inv X pins σ H s->t σ H Q->wpAny (model X.prog X.w) X.A (spliced (backTo pos (starEach es X.env))) (AP X pins σ Q) X.xe s
def PS (X:Cx) (st:Stmt) (t:TS):Prop:=
 ∀ (pins:List (Addr×Obj)) (s:Shared) (σ:St) (H:Hp) (D:Ends),Inv X pins σ H s->t D σ H->wpAny (model X.prog X.w) X.A (exec st X.env) (SP X pins D) X.xe s
def PSs (X:Cx) (st:List Stmt) (t:TS):Prop:=
 ∀ (pins:List (Addr×Obj)) (s:Shared) (σ:St) (H:Hp) (D:Ends),Inv X pins σ H s->t D σ H->wpAny (model X.prog X.w) X.A (execs st X.env) (SP X pins D) X.xe s
theorem thn {α:Type} {t:Sem α} {Q Q':α->Shared->Prop} {M:Model} {A:Around} {E:Value->Shared->Prop} {s:Shared} (h:wpAny M A t Q E s) (hQ:∀ a s,Q a s->Q' a s):wpAny M A t Q' E s:=wpAny_mono h hQ fun _ _ x=>x
end L2
namespace L2
open PySem PySem.Spec PyProof.Rows
section
variable {X:Cx}
theorem bin {a b:Expr} {ta tb:TE} (ha:PE X a ta) (hb:PE X b tb) {pins:List (Addr×Obj)} {s:Shared} {σ:St} {H:Hp} {R:V->V->Hp->Prop} (I:Inv X pins σ H s) (h:ta σ H fun x H1=>tb σ H1 fun y H2=>R x y H2)
  {α:Type} {Q:α->Shared->Prop} {f:Value->Value->Sem α}
  (hf:∀ v u s2 x y H2,Inv X pins σ H2 s2->cY x v->cY y u->R x y H2->wpAny (model X.prog X.w) X.A (f v u) Q X.xe s2):
  wpAny (model X.prog X.w) X.A (eval a X.env) (fun v s₁=>wpAny (model X.prog X.w) X.A (eval b X.env) (fun u s₂=>wpAny (model X.prog X.w) X.A (f v u) Q X.xe s₂) X.xe s₁) X.xe s:=by
 refine thn (ha pins s σ H _ I h) fun v s1 ⟨x,H1,I1,r1,q1⟩=>?_
 refine thn (hb pins s1 σ H1 _ I1 q1) fun u s2 ⟨y,H2,I2,r2,q2⟩=>?_
 exact hf v u s2 x y H2 I2 r1 r2 q2
abbrev zBQ (i:Nat):TE:=fun σ H Q=>∃ v,σ[i]?=some (some v)/\Q v H
abbrev tC (v:V):TE:=fun _ H Q=>Q v H
theorem rD {i:Nat} {x:Str} {pos:Pos} (hN:X.N[i]?=some x) (hv:Vis X.env.scope x) (hd:(x==("__debug__" : Str))=false:=by decide) (hcd:(x==("__classdict__" : Str))=false:=by decide):PE X (.Name x pos) (zBQ i):=by
 intro pins s σ H Q I h
 obtain ⟨v,e,h⟩:=h
 obtain ⟨m,hn,hl⟩:=I.loc
 obtain ⟨u,r,l⟩:=hl i x v hN e hv
 have fin:EP X pins σ Q u s:=⟨v,H,I,r,h⟩
 rcases l with ⟨hk,hm⟩ | ⟨hk,c,hc,hcell⟩
 ·exact wpAny_Name (wpAny_loadName_local I.ok.kind hk hn hm fin) hd
 ·rcases hk with hk | hk
  ·exact wpAny_Name (wpAny_loadName_cell I.ok.kind hk hc hcell fin) hd
  ·exact wpAny_Name (wpAny_loadName_free I.ok.kind hk hc hcell fin hcd) hd
theorem aG {i j pos}:PE X (.Constant (.int i) j pos) (tC (.int i)):=fun _ _ _ H _ I h=>wpAny_Constant_int ⟨.int i,H,I.tok _,⟨_,rfl⟩,h⟩
theorem eY {b j pos}:PE X (.Constant (.bool b) j pos) (tC (.bl b)):=fun _ _ _ H _ I h=>Constant_bool ⟨.bl b,H,I,rfl,h⟩
theorem cH {x j pos}:PE X (.Constant (.str x) j pos) (tC (.str x)):=fun _ _ _ H _ I h=>Calls.Constant_str ⟨.str x,H,I.tok _,⟨_,rfl⟩,h⟩
def Gl (X:Cx) (x:Str):Prop:=X.env.kindOf x=some .globalImplicit
theorem qW {E:Value->Shared->Prop} {pins:List (Addr×Obj)} {s:Shared} {σ:St} {H:Hp} {x:Str} {u:Value} {pos:Pos} {Q:Value->Shared->Prop} (I:Inv X pins σ H s) (hg:Gl X x) (hm:X.mg x=some u) (h:Q u s)
  (hd:(x==("__debug__" : Str))=false:=by decide):wpAny (model X.prog X.w) X.A (eval (.Name x pos) X.env) Q E s:=
 Calls.Name_function_global I.ok.kind hg (Calls.loadGlobal_global (by rw [I.ok.glob];exact I.mod.glob.keeps I.bk) hm h) hd
theorem lQ {E:Value->Shared->Prop} {pins:List (Addr×Obj)} {s:Shared} {σ:St} {H:Hp} {x:Str} {u:Value} {pos:Pos} {Q:Value->Shared->Prop} (I:Inv X pins σ H s) (hg:Gl X x) (hm:X.mg x=none) (hv:bootBuiltins x=some u) (h:Q u s)
  (hn:x ≠ "__name__" := by decide) (hd:(x==("__debug__" : Str))=false:=by decide):wpAny (model X.prog X.w) X.A (eval (.Name x pos) X.env) Q E s:=by
 obtain ⟨mb,h1,h2⟩:=I.mod.blt
 exact Calls.Name_function_global I.ok.kind hg (Calls.loadGlobal_builtin (by rw [I.ok.glob];exact I.mod.glob.keeps I.bk) hm (by rw [I.ok.blt];exact h1.keeps I.bk) ((h2 x hn).trans hv) h) hd
theorem zBh {x:Str} {v:V} {u:Value} {pos:Pos} (hg:Gl X x) (hm:X.mg x=some u) (r:cY v u) (hd:(x==("__debug__" : Str))=false:=by decide):PE X (.Name x pos) (tC v):=
 fun _ _ _ H _ I h=>qW I hg hm ⟨v,H,I,r,h⟩ hd
theorem zIB {x:Str} {v:V} {u:Value} {pos:Pos} (hg:Gl X x) (hm:X.mg x=none) (hv:bootBuiltins x=some u) (r:cY v u) (hn:x ≠ "__name__" := by decide) (hd:(x==("__debug__" : Str))=false:=by decide):PE X (.Name x pos) (tC v):=
 fun _ _ _ H _ I h=>lQ I hg hm hv ⟨v,H,I,r,h⟩ hn hd
variable {a b:Expr} {ta tb:TE} {pos:Pos}
def PC (X:Cx) (op:CmpOp) (a b:Expr) (t:TE):Prop:=
 ∀ (pins:List (Addr×Obj)) (s:Shared) (σ:St) (H:Hp) (Q:VK),Inv X pins σ H s->t σ H Q->
  wpAny (model X.prog X.w) X.A (eval a X.env) (fun v s₁=>wpAny (model X.prog X.w) X.A (eval b X.env) (fun u s₂=>wpAny (model X.prog X.w) X.A (compareOp op v u) (EP X pins σ Q) X.xe s₂) X.xe s₁) X.xe s
theorem zGI (b:Expr) {op:CmpOp} (h:op≠.In) (h2:op≠.NotIn):behindInMarks op b=false:=by
 have e1:(op==CmpOp.In)=false:=by cases op<;>first | rfl | exact absurd rfl h
 have e2:(op==CmpOp.NotIn)=false:=by cases op<;>first | rfl | exact absurd rfl h2
 cases b<;>simp [behindInMarks,e1,e2]
abbrev tB (t:TE):TT:=fun σ H Q=>t σ H fun x H1=>∃ c,x=.bl c/\Q c H1
theorem zNT {op:CmpOp} {t:TE} (h:PC X op a b t) (h1:behindInMarks op b=false:=by first | exact zGI _ (by decide) (by decide) | rfl):PT X (.Compare a [op] [b] pos) (tB t):=by
 intro pins s σ H Q I hw
 refine wpAny_isTrue_Compare1 (thn (h pins s σ H _ I hw) fun v s1 h1=>thn h1 fun u s2 h2=>thn h2 fun c s3 ⟨x,H1,I1,r1,q1⟩=>?_) h1
 obtain ⟨d,rfl,q⟩:=q1
 cases r1
 exact wpAny_truthy_bool ⟨H1,I1,q⟩
theorem zKB {e:Expr} {t:TE} (h:PE X e t) (he:∀ whole,isTrue e X.env whole=(do let v <-whole;standAt e.pos;holding [v] (truthy v)):=by intro _;rfl):PT X e (tB t):=by
 intro pins s σ H Q I hw
 refine isTrue_plain (thn (h pins s σ H _ I hw) fun v s1 ⟨x,H1,I1,r1,q1⟩=>?_) (he _)
 obtain ⟨d,rfl,q⟩:=q1
 cases r1
 exact wpAny_truthy_bool ⟨H1,I1,q⟩
variable {tA tB':TT} {rest:List Expr}
abbrev zNY (t u:TT):TT:=fun σ H Q=>t σ H fun c H1=>if c=true then u σ H1 Q else Q false H1
abbrev tOr (t u:TT):TT:=fun σ H Q=>t σ H fun c H1=>if c=true then Q true H1 else u σ H1 Q
abbrev zOe (t:TT):TT:=fun σ H Q=>t σ H fun c H1=>Q (!c) H1
theorem zJG (ha:PT X a tA):PW X (.BoolOp .And [a] pos) tA:=by
 intro wh pins s σ H Q I h
 refine isTrue_and (thn (ha pins s σ H Q I h) fun c s1 e=>?_)
 cases c with
 | true=>exact isTrue_and_nil e
 | false=>exact e
theorem zKQ (ha:PT X a tA):PW X (.BoolOp .Or [a] pos) tA:=by
 intro wh pins s σ H Q I h
 refine isTrue_or (thn (ha pins s σ H Q I h) fun c s1 e=>?_)
 cases c with
 | false=>exact isTrue_or_nil e
 | true=>exact e
theorem zKf (ha:PT X a tA) (hb:PW X (.BoolOp .And (b::rest) pos) tB'):PW X (.BoolOp .And (a::b::rest) pos) (zNY tA tB'):=by
 intro wh pins s σ H Q I h
 refine isTrue_and (thn (ha pins s σ H _ I h) fun c s1 ⟨H1,I1,q1⟩=>?_)
 cases c with
 | true=>exact hb wh pins s1 σ H1 Q I1 q1
 | false=>exact ⟨H1,I1,q1⟩
theorem zMC (ha:PT X a tA) (hb:PW X (.BoolOp .Or (b::rest) pos) tB'):PW X (.BoolOp .Or (a::b::rest) pos) (tOr tA tB'):=by
 intro wh pins s σ H Q I h
 refine isTrue_or (thn (ha pins s σ H _ I h) fun c s1 ⟨H1,I1,q1⟩=>?_)
 cases c with
 | true=>exact ⟨H1,I1,q1⟩
 | false=>exact hb wh pins s1 σ H1 Q I1 q1
theorem zLK (ha:PT X a tA):PT X (.UnaryOp .Not a pos) (zOe tA):=by
 intro pins s σ H Q I h
 exact isTrue_not (ha pins s σ H (fun c H1=>Q (!c) H1) I h)
abbrev zOd (ta tb:TE):TE:=fun σ H Q=>ta σ H fun x H1=>∃ c,x=.bl c/\if c=true then Q (.bl true) H1 else tb σ H1 Q
theorem zLu {op} {t:TE} (h:PE X a t):PE X (.BoolOp op [a] pos) t:=fun pins s σ H Q I hw=>BoolOp_one (h pins s σ H Q I hw)
theorem zNl (ha:PE X a ta) (hb:PE X (.BoolOp .Or (b::rest) pos) tb):PE X (.BoolOp .Or (a::b::rest) pos) (zOd ta tb):=by
 intro pins s σ H Q I h
 refine BoolOp_or (thn (ha pins s σ H _ I h) fun v s1 ⟨x,H1,I1,r1,q1⟩=>?_)
 obtain ⟨c,rfl,q1⟩:=q1
 cases r1
 refine wpAny_truthy_bool ?_
 cases c with
 | false=>exact hb pins s1 σ H1 Q I1 q1
 | true=>exact ⟨.bl true,H1,I1,rfl,q1⟩
abbrev tIf (t:TT) (ta tb:TE):TE:=fun σ H Q=>t σ H fun c H1=>if c=true then ta σ H1 Q else tb σ H1 Q
theorem zGS {c:Expr} (hc:PT X c tA) (ha:PE X a ta) (hb:PE X b tb):PE X (.IfExp c a b pos) (tIf tA ta tb):=by
 intro pins s σ H Q I h
 refine wpAny_IfExp (thn (hc pins s σ H _ I h) fun d s1 ⟨H1,I1,q1⟩=>?_)
 cases d with
 | true=>exact ha pins s1 σ H1 Q I1 q1
 | false=>exact hb pins s1 σ H1 Q I1 q1
end
end L2
namespace L2
open PySem PySem.Spec PyProof.Rows
def SqL (K:PySem.W.Frag) (H:Hp) (a:Addr) (xs:List V):Prop:=
 Rd H a (.lst xs)∨
  ∃ (o:Obj) (its:Array Value) (n:Nat),K.lookup a=some o/\o.cls=.type "list" /\ o.dict=none/\o.data=.seq its n/\its.size<=sizeLine/\dG xs its.toList
def SqT (K:PySem.W.Frag) (H:Hp) (a:Addr) (xs:List V):Prop:=
 Rd H a (.tup xs)∨
  ∃ (o:Obj) (its:Array Value) (n:Nat),K.lookup a=some o/\o.cls=.type "tuple" /\ o.data=.seq its n/\its.size<=sizeLine/\dG xs its.toList
def zOj:Value->Option V
 | .none=>some .non
 | .bool b=>some (.bl b)
 | .int i _=>some (.int i)
 | .str x _=>some (.str x)
 | .bytes b _=>some (.byt b)
 | .float b _=>some (.flt b)
 | .ref a=>some (.ref a)
 | .type n=>some (.ty n)
 | _=>none
theorem cY.abs {x:V} {u:Value} (r:cY x u):zOj u=some x:=by
 cases x with
 | non=>cases r;rfl
 | bl _=>cases r;rfl
 | int _=>obtain ⟨t,rfl⟩:=r;rfl
 | str _=>obtain ⟨t,rfl⟩:=r;rfl
 | byt _=>obtain ⟨t,rfl⟩:=r;rfl
 | flt _=>obtain ⟨t,rfl⟩:=r;rfl
 | ref _=>cases r;rfl
 | ty _=>cases r;rfl
theorem cY.inj {x y:V} {u:Value} (r:cY x u) (q:cY y u):x=y:=Option.some.inj (r.abs.symm.trans q.abs)
theorem dG.inj:∀ {xs ys:List V} {us:List Value},dG xs us->dG ys us->xs=ys
 | _,_,_,.nil,.nil=>rfl
 | _,_,_,.cons r t,.cons r' t'=>by rw [r.inj r',dG.inj t t']
section
variable {X:Cx} {pins:List (Addr×Obj)} {σ:St} {H:Hp} {s:Shared} {a:Addr} {xs ys:List V}
theorem SqL.of {K:PySem.W.Frag} (h:H a=some (.lst xs)):SqL K H a xs:=.inl (.inl h)
theorem SqT.of {K:PySem.W.Frag} (h:H a=some (.tup xs)):SqT K H a xs:=.inl (.inl h)
theorem Inv.list (I:Inv X pins σ H s) (h:SqL X.K H a xs):∃ its:List Value,dG xs its/\PlainL s.heap a its.toArray/\xs.length<=sizeLine:=by
 rcases h with h | ⟨o,its,n,hk,hc,hd,hs,hz,r⟩
 ·obtain ⟨z,its,n,r,e⟩:=h.ok I.hok
  exact ⟨its,r,⟨_,n,e,rfl,rfl,rfl⟩,z⟩
 ·refine ⟨its.toList,r,⟨o,n,I.kIn a o hk,hc,hd,by simpa using hs⟩,?_⟩
  have e:=r.length
  simp only [Array.length_toList] at e
  omega
theorem Inv.tuple (I:Inv X pins σ H s) (h:SqT X.K H a xs):∃ its:List Value,dG xs its/\IsTup s.heap a its.toArray/\xs.length<=sizeLine:=by
 rcases h with h | ⟨o,its,n,hk,hc,hs,hz,r⟩
 ·obtain ⟨z,its,r,p⟩:=h.ok I.hok
  exact ⟨its,r,p,z⟩
 ·refine ⟨its.toList,r,⟨o,I.kIn a o hk,hc,n,by simpa using hs⟩,?_⟩
  have e:=r.length
  simp only [Array.length_toList] at e
  omega
theorem Inv.list_inj (I:Inv X pins σ H s) (h:SqL X.K H a xs) (h':SqL X.K H a ys):xs=ys:=by
 obtain ⟨its,r,⟨o,n,e,_,_,d⟩,_⟩:=I.list h
 obtain ⟨its',r',⟨o',n',e',_,_,d'⟩,_⟩:=I.list h'
 rw [e] at e';cases e'
 rw [d] at d'
 injection d' with d1 _
 have:its=its':=by simpa using congrArg Array.toList d1
 subst this
 exact r.inj r'
theorem Inv.tuple_inj (I:Inv X pins σ H s) (h:SqT X.K H a xs) (h':SqT X.K H a ys):xs=ys:=by
 obtain ⟨its,r,⟨o,e,_,n,d⟩,_⟩:=I.tuple h
 obtain ⟨its',r',⟨o',e',_,n',d'⟩,_⟩:=I.tuple h'
 rw [e] at e';cases e'
 rw [d] at d'
 injection d' with d1 _
 have:its=its':=by simpa using congrArg Array.toList d1
 subst this
 exact r.inj r'
end
abbrev Cx.wish (X:Cx) (E:Value->Shared->Prop):Cx:={ X with xe:=E }
abbrev Cx.nox (X:Cx):Cx:=X.wish fun _ _=>False
theorem Cx.Ok.wish {X:Cx} (ok:X.Ok) (E:Value->Shared->Prop):(X.wish E).Ok:=
 ⟨ok.mod,ok.kind,ok.glob,ok.blt,ok.above,ok.inj,ok.has,ok.cab,ok.hd,ok.frames,ok.stk,ok.exf,ok.bs,ok.bsz,ok.noex,ok.exfs,ok.funs,ok.frf⟩
theorem Cx.Ok.unwish {X:Cx} {E:Value->Shared->Prop} (ok:(X.wish E).Ok):X.Ok:=
 ⟨ok.mod,ok.kind,ok.glob,ok.blt,ok.above,ok.inj,ok.has,ok.cab,ok.hd,ok.frames,ok.stk,ok.exf,ok.bs,ok.bsz,ok.noex,ok.exfs,ok.funs,ok.frf⟩
section
variable {X:Cx} {pins:List (Addr×Obj)} {σ:St} {H:Hp} {s:Shared} {E:Value->Shared->Prop}
theorem Inv.wish (I:Inv X pins σ H s) (E:Value->Shared->Prop):Inv (X.wish E) pins σ H s:=⟨I.ok.wish E,I.os,I.bare,I.base,I.loc,I.cell,I.free,I.freeC,I.pin,I.hok,I.len⟩
theorem Inv.unwish (I:Inv (X.wish E) pins σ H s):Inv X pins σ H s:=⟨I.ok.unwish,I.os,I.bare,I.base,I.loc,I.cell,I.free,I.freeC,I.pin,I.hok,I.len⟩
end
section
variable {X:Cx} {st:Stmt} {rest:List Stmt} {t u:TS} {e:Expr} {te:TE} {pos:Pos}
abbrev zMB:TS:=fun D σ H=>D.nx σ H
abbrev zMO (t u:TS):TS:=fun D σ H=>t { D with nx:=u D } σ H
theorem zJH:PSs X [] zMB:=fun _ _ σ H _ I h=>wpAny_execs_nil ⟨σ,H,I,h⟩
theorem qM (h1:PS X st t) (h2:PSs X rest u):PSs X (st::rest) (zMO t u):=by
 intro pins s σ H D I h
 refine wpAny_execs_cons (thn (h1 pins s σ H { D with nx:=u D } I h) fun f s1 q=>?_)
 cases f with
 | next=>
  obtain ⟨σ',H',I',q⟩:=q
  exact h2 pins s1 σ' H' D I' q
 | ret v=>exact q
 | brk=>exact q
 | cont=>exact q
theorem zBu (h1:PS X st t):PSs X [st] t:=by
 intro pins s σ H D I h
 refine wpAny_execs_cons (thn (h1 pins s σ H D I h) fun f s1 q=>?_)
 cases f with
 | next=>exact wpAny_execs_nil q
 | ret v=>exact q
 | brk=>exact q
 | cont=>exact q
theorem Inv.quiet {pins:List (Addr×Obj)} {σ:St} {H:Hp} {s:Shared} (I:Inv X pins σ H s):interactive X.env=false:=by simp [interactive,I.ok.kind]
abbrev zMV (te:TE):TS:=fun D σ H=>te σ H fun _ H1=>D.nx σ H1
theorem zAJ (he:PE X e te) (hs:swapsWith e none pos.line X.env=pure false:=by rfl):PS X (.Expr e pos) (zMV te):=by
 intro pins s σ H D I h
 exact wpAny_Expr_any (thn (he pins s σ H _ I h) fun v s1 ⟨x,H1,I1,r1,q1⟩=>⟨σ,H1,I1,q1⟩) I.quiet hs
abbrev zNM (te:TE):TS:=fun D σ H=>te σ H D.rt
theorem zCA (he:PE X e te):PS X (.Return (some e) pos) (zNM te):=by
 intro pins s σ H D I h
 exact wpAny_Return_some (thn (he pins s σ H _ I h) fun v s1 ⟨x,H1,I1,r1,q1⟩=>⟨x,σ,H1,I1,r1,q1⟩)
abbrev zOu (c:TT) (t u:TS):TS:=fun D σ H=>c σ H fun b H1=>if b=true then t D σ H1 else u D σ H1
theorem zMQ {c:Expr} {a b:List Stmt} {tc:TT} (hc:PT X c tc) (ha:PSs X a t) (hb:PSs X b u):PS X (.If c a b pos) (zOu tc t u):=by
 intro pins s σ H D I h
 refine wpAny_If (thn (hc pins s σ H _ I h) fun d s1 ⟨H1,I1,q1⟩=>?_)
 cases d with
 | true=>exact ha pins s1 σ H1 D I1 q1
 | false=>exact hb pins s1 σ H1 D I1 q1
end
abbrev TG:=V->St->Hp->(St->Hp->Prop)->Prop
abbrev TGs:=List V->St->Hp->(St->Hp->Prop)->Prop
def PG (X:Cx) (target:Expr) (t:TG):Prop:=
 ∀ (pins:List (Addr×Obj)) (s:Shared) (σ:St) (H:Hp) (v:V) (u:Value) (Q:St->Hp->Prop),Inv X pins σ H s->cY v u->t v σ H Q->
  wpAny (model X.prog X.w) X.A (assign target X.env u) (fun _ s'=>∃ σ' H',Inv X pins σ' H' s'/\Q σ' H') X.xe s
def PGs (X:Cx) (ts:List Expr) (t:TGs):Prop:=
 ∀ (pins:List (Addr×Obj)) (s:Shared) (σ:St) (H:Hp) (vs:List V) (us:List Value) (Q:St->Hp->Prop),Inv X pins σ H s->dG vs us->t vs σ H Q->
  wpAny (model X.prog X.w) X.A (assignInOrder ((assignEach ts X.env).map (·.2)) us) (fun _ s'=>∃ σ' H',Inv X pins σ' H' s'/\Q σ' H') X.xe s
abbrev zMI:=V->V->V->Hp->(Hp->Prop)->Prop
def zNU (X:Cx) (t:zMI):Prop:=
 ∀ (pins:List (Addr×Obj)) (s:Shared) (σ:St) (H:Hp) (o i v:V) (ov iv u:Value) (Q:Hp->Prop),Inv X pins σ H s->cY o ov->cY i iv->cY v u->t o i v H Q->
  wpAny (model X.prog X.w) X.A (setItem ov iv u) (fun _ s'=>∃ H',Inv X pins σ H' s'/\Q H') X.xe s
abbrev TIp:=V->V->Hp->VK->Prop
def PIp (X:Cx) (op:Operator) (t:TIp):Prop:=
 ∀ (pins:List (Addr×Obj)) (s:Shared) (σ:St) (H:Hp) (x y:V) (v u:Value) (Q:VK),Inv X pins σ H s->cY x v->cY y u->t x y H Q->
  wpAny (model X.prog X.w) X.A (inplaceOp op v u) (EP X pins σ Q) X.xe s
section
variable {X:Cx} {pos:Pos}
abbrev gName (i:Nat):TG:=fun v σ H Q=>Q (σ.set i (some v)) H
theorem zAX {i:Nat} {x:Str} (hN:X.N.Nodup) (hi:X.N[i]?=some x) (hx:Loc X.env.scope x) (hf:X.fn x=true∨X.env.scope.names.lookup x=some .local:=by first | exact .inl rfl | exact .inr rfl | assumption):PG X (.Name x pos) (gName i):=by
 intro pins s σ H v u Q I r h
 exact wpAny_assign_Name (oK I hN hi hx r (fun s' I'=>⟨_,H,I',h⟩) hf)
def zMf:TGs:=fun vs σ H Q=>vs=[]/\Q σ H
def zFH (t:TG) (u:TGs):TGs:=fun vs σ H Q=>∃ v r,vs=v::r/\t v σ H fun σ' H'=>u r σ' H' Q
theorem zJD:PGs X [] zMf:=by
 intro pins s σ H vs us Q I r h
 obtain ⟨e,h⟩:=h
 subst e
 cases r
 exact assignInOrder_nil ⟨σ,H,I,h⟩
theorem zCO {e:Expr} {es:List Expr} {t:TG} {u:TGs} (h1:PG X e t) (h2:PGs X es u)
  (hs:(assignEach (e::es) X.env).map (·.2)=assign e X.env::(assignEach es X.env).map (·.2):=by rfl):PGs X (e::es) (zFH t u):=by
 intro pins s σ H vs us Q I r h
 obtain ⟨v,vr,e1,h⟩:=h
 subst e1
 cases r with
 | cons r rr=>
  rw [hs]
  refine assignInOrder_cons (thn (h1 pins s σ H _ _ _ I r h) fun _ s1 ⟨σ1,H1,I1,q1⟩=>?_)
  exact h2 pins s1 σ1 H1 _ _ Q I1 rr q1
def zKv (K:PySem.W.Frag) (n:Nat) (t:TGs):TG:=fun v σ H Q=>∃ a xs,v=.ref a/\SqT K H a xs/\xs.length=n/\t xs σ H Q
theorem zKW {es:List Expr} {k:Nat} {t:TGs} {n:Nat} (hc:X.calm=true) (h:PGs X es t)
  (hn:(assignEach es X.env).length=n:=by rfl) (hst:(assignEach es X.env).findIdx? (·.1)=none:=by rfl):PG X (.Tuple es k pos) (zKv X.K n t):=by
 intro pins s σ H v u Q I r hw
 obtain ⟨a,xs,e1,hq,hl,hw⟩:=hw
 subst e1
 cases r
 obtain ⟨its,rv,ht,hz⟩:=I.tuple hq
 refine assign_Tuple_tuple (I.ok.hd hc) ht (by simp [hn,<-hl,rv.length]) hst fun h' hx=>?_
 have I1:Inv X pins σ H { s with heap:=h' }:=I.kept (t':=s.toks) fun b o e=>hx b o (Nat.ne_of_lt (Heap.lt_size e)) e
 exact h pins _ σ H xs _ Q I1 (by simpa using rv) hw
def zOh (to ti:TE) (t:zMI):TG:=fun v σ H Q=>to σ H fun o H1=>ti σ H1 fun i H2=>t o i v H2 fun H3=>Q σ H3
theorem zKi {o i:Expr} {to ti:TE} {t:zMI} (ho:PE X o to) (hi:PE X i ti) (hs:zNU X t)
  (ha:∀ v,assign (.Subscript o i pos) X.env v=(do
   let ov <-holding [v] (eval o X.env)
   let iv <-holding [v,ov] (eval i X.env)
   standAt pos
   holding [v,ov,iv] (setItem ov iv v)
   release [v,ov,iv] []):=by intro _;rfl):PG X (.Subscript o i pos) (zOh to ti t):=by
 intro pins s σ H v u Q I r h
 rw [ha]
 refine wpAny_bind (wpAny_holding (thn (ho pins s σ H _ I h) fun ov s1 ⟨x,H1,I1,r1,q1⟩=>?_))
 refine wpAny_bind (wpAny_holding (thn (hi pins s1 σ H1 _ I1 q1) fun iv s2 ⟨y,H2,I2,r2,q2⟩=>?_))
 refine wpAny_bind (wpAny_standAt (wpAny_bind (wpAny_holding (thn (hs pins s2 σ H2 x y v ov iv u _ I2 r1 r2 r q2) fun _ s3 ⟨H3,I3,q3⟩=>?_))))
 exact wpAny_release ⟨σ,H3,I3,q3⟩
abbrev zMz (te:TE) (g:TG):TS:=fun D σ H=>te σ H fun x H1=>g x σ H1 D.nx
theorem zKT {tg e:Expr} {te:TE} {g:TG} (he:PE X e te) (hg:PG X tg g) (hs:swapsWithSole [tg] e pos.line X.env=pure false:=by rfl) (hw:swappedStores [tg] e X.env=pure none:=by rfl)
  (h1:(assignEach [tg] X.env).map (·.2)=[assign tg X.env]:=by rfl):PS X (.Assign [tg] e pos) (zMz te g):=by
 intro pins s σ H D I h
 refine wpAny_Assign_stores (thn (he pins s σ H _ I h) fun v s1 ⟨x,H1,I1,r1,q1⟩=>?_) hs hw
 rw [h1]
 exact thn (hg pins s1 σ H1 x v _ I1 r1 q1) fun _ s2 q=>q
theorem zIe {i:Nat} {x:Str} {e:Expr} {te:TE} {pos':Pos} (hN:X.N.Nodup) (hi:X.N[i]?=some x) (hx:Loc X.env.scope x) (he:PE X e te) (hs:swapsWith e (some (.Name x pos')) pos.line X.env=pure false:=by rfl) (hf:X.fn x=true∨X.env.scope.names.lookup x=some .local:=by first | exact .inl rfl | exact .inr rfl | assumption):
  PS X (.Assign [.Name x pos'] e pos) (zMz te (gName i)):=by
 intro pins s σ H D I h
 refine wpAny_Assign_Name (thn (he pins s σ H _ I h) fun v s1 ⟨y,H1,I1,r1,q1⟩=>?_) hs
 exact oK I1 hN hi hx r1 (fun s2 I2=>⟨_,H1,I2,q1⟩) hf
abbrev zOl (i:Nat) (te:TE) (ti:TIp):TS:=fun D σ H=>∃ x,σ[i]?=some (some x)/\te σ H fun y H1=>ti x y H1 fun z H2=>D.nx (σ.set i (some z)) H2
theorem zKu {i:Nat} {x:Str} {e:Expr} {te:TE} {op:Operator} {ti:TIp} {pos':Pos} (hN:X.N.Nodup) (hi:X.N[i]?=some x) (hx:Loc X.env.scope x) (he:PE X e te) (ho:PIp X op ti) (hf:X.fn x=true∨X.env.scope.names.lookup x=some .local:=by first | exact .inl rfl | exact .inr rfl | assumption):
  PS X (.AugAssign (.Name x pos') op e pos) (zOl i te ti):=by
 intro pins s σ H D I h
 obtain ⟨v,e1,h⟩:=h
 obtain ⟨m,hn,hl⟩:=I.loc
 have vis:Vis X.env.scope x:=by rcases hx with k | k;exact .inl k;exact .inr (.inl k)
 obtain ⟨u,r,l⟩:=hl i x v hi e1 vis
 refine wpAny_AugAssign_Name ?_
 have go:wpAny (model X.prog X.w) X.A (eval e X.env) (fun w s₂=>wpAny (model X.prog X.w) X.A (inplaceOp op u w) (fun r s₃=>wpAny (model X.prog X.w) X.A (storeName X.env x r) (fun _=>SP X pins D .next) X.xe s₃) X.xe s₂) X.xe s:=by
  refine thn (he pins s σ H _ I h) fun w s1 ⟨y,H1,I1,r1,q1⟩=>?_
  refine thn (ho pins s1 σ H1 v y u w _ I1 r r1 q1) fun z s2 ⟨zv,H2,I2,r2,q2⟩=>?_
  exact oK I2 hN hi hx r2 (fun s3 I3=>⟨_,H2,I3,q2⟩) hf
 rcases l with ⟨hk,hm⟩ | ⟨hk,c,hc,hcell⟩
 ·exact wpAny_loadName_local I.ok.kind hk hn hm go
 ·rcases hk with hk | hk
  ·exact wpAny_loadName_cell I.ok.kind hk hc hcell go
  ·rcases hx with k | k
   ·have:X.env.scope.names.lookup x=some .free:=hk
    rw [k] at this;cases this
   ·have:X.env.scope.names.lookup x=some .free:=hk
    rw [k] at this;cases this
def ipI (f:Int->Int->Int):TIp:=fun x y H Q=>∃ i j,x=.int i/\y=.int j/\Q (.int (f i j)) H
theorem zHy:PIp X .Add (ipI fun i j=>i+j):=by
 intro pins s σ H x y v u Q I r1 r2 h
 obtain ⟨i,j,e1,e2,q⟩:=h
 subst e1;subst e2
 obtain ⟨t,rfl⟩:=r1
 obtain ⟨t',rfl⟩:=r2
 exact iadd_int ⟨.int _,H,I.tok _,⟨_,rfl⟩,q⟩
theorem zHQ:PIp X .Sub (ipI fun i j=>i - j):=by
 intro pins s σ H x y v u Q I r1 r2 h
 obtain ⟨i,j,e1,e2,q⟩:=h
 subst e1;subst e2
 obtain ⟨t,rfl⟩:=r1
 obtain ⟨t',rfl⟩:=r2
 exact isub_int ⟨.int _,H,I.tok _,⟨_,rfl⟩,q⟩
end
section
variable {X:Cx} {pos:Pos}
def zKO (c:TT) (tb:TS):TS:=fun D σ H=>∃ W:Nat->St->Hp->Prop,(∃ m,W m σ H)/\∀ m σ H,W m σ H->
 c σ H fun b H1=>if b=true then ∃ N:St->Hp->Prop,(∀ σ' H',N σ' H'->∃ m',m' < m/\W m' σ' H')/\tb { D with nx:=N,ct:=N,bk:=D.nx } σ H1 else D.nx σ H1
theorem zGu {c:Expr} {body:List Stmt} {tc:TT} {tb:TS} (hp:PassesOwn (model X.prog X.w) X.A X.env X.xe) (hc:PT X c tc) (hb:PSs X body tb):PS X (.While c body [] pos) (zKO tc tb):=by
 intro pins s σ H D I h
 obtain ⟨W,⟨m0,w0⟩,turn⟩:=h
 refine wpAny_While (codeAny_whileLoop (fun n s'=>∃ σ' H',Inv X pins σ' H' s'/\W n σ' H') ?_ m0 ⟨σ,H,I,w0⟩)
 rintro n s1 ⟨σ1,H1,I1,w1⟩
 refine wpAny_passesOwn hp (thn (hc pins s1 σ1 H1 _ I1 (turn n σ1 H1 w1)) fun b s2 ⟨H2,I2,q2⟩=>?_)
 cases b with
 | true=>
  obtain ⟨N,hN,q2⟩:=q2
  rw [if_pos rfl]
  refine wpAny_passesOwn hp (thn (hb pins s2 σ1 H2 _ I2 q2) fun f s3 q3=>?_)
  cases f with
  | next=>
   obtain ⟨σ3,H3,I3,n3⟩:=q3
   obtain ⟨m',hm,w3⟩:=hN σ3 H3 n3
   exact ⟨m',hm,σ3,H3,I3,w3⟩
  | cont=>
   obtain ⟨σ3,H3,I3,n3⟩:=q3
   obtain ⟨m',hm,w3⟩:=hN σ3 H3 n3
   exact ⟨m',hm,σ3,H3,I3,w3⟩
  | brk=>exact q3
  | ret v=>exact q3
 | false=>
  rw [if_neg Bool.false_ne_true]
  exact wpAny_execs_nil ⟨σ1,H2,I2,q2⟩
end
structure It where
 go:Nat->Hp->Prop
 yld:Nat->Hp->V->Hp->Prop
 stop:Nat->Hp->Prop
def qJ (X:Cx) (pins:List (Addr×Obj)) (H:Hp) (b:Addr):Prop:=
 H b=none/\b≠X.env.locals/\b∉X.fs/\(b∈X.ex∨X.s₀.heap.objs.size<=b)/\(∀ x c,X.env.cells.lookup x=some c->c≠b)/\∀ p∈X.pn++pins,p.1≠b
theorem Inv.fpOk {X:Cx} {pins:List (Addr×Obj)} {σ:St} {H H':Hp} {s:Shared} {b:Addr} (I:Inv X pins σ H s) (hb:s.heap.objs.size<=b) (hn:H' b=none):qJ X pins H' b:=by
 refine ⟨hn,Nat.ne_of_gt (Nat.lt_of_lt_of_le I.lt hb),I.nofs hb,.inr (Nat.le_trans I.sz hb),fun x c e z=>?_,fun p hp z=>?_⟩
 ·obtain ⟨v,q⟩:=I.cell x c e
  exact absurd (Nat.lt_of_lt_of_le q.lt (by rw [z];exact hb)) (Nat.lt_irrefl _)
 ·exact absurd (Nat.lt_of_lt_of_le (Heap.lt_size (I.pin p hp).1) (by rw [z];exact hb)) (Nat.lt_irrefl _)
structure Turn (P:Program) (w:World) (K:PySem.W.Frag) (tg:Expr) (J:It) (fp:List Addr) (it:Addr) (tn:Nat->Heap->Prop):Prop where
 mem:it∈fp
 obj:∀ i h,tn i h->∀ b∈fp,∃ o,h.get? b=some o/\∀ v,o.data≠.cell v
 keep:∀ i h h',tn i h->(∀ b∈fp,∀ o,h.get? b=some o->h'.get? b=some o)->tn i h'
 item:∀ (X:Cx),X.prog=P->X.w=w->X.K=K->X.calm=true->∀ (i:Nat) (pins:List (Addr×Obj)) (s:Shared) (σ:St) (H:Hp) (E:Value->Shared->Prop),Inv X pins σ H s->(∀ b∈fp,qJ X pins H b)->tn i s.heap->J.go i H->
  wpAny (model P w) X.A (pyNext (.ref it)) (fun r s1=>∃ u,r=some u/\
   wpAny (model P w) X.A (letOwnedTupleGo tg (.ref it) u) (fun _ s2=>∃ x H',Inv X pins σ H' s2/\cY x u/\J.yld i H x H'/\tn (i+1) s2.heap/\∀ b∈fp,H' b=none) E s1) E s
 done:∀ (X:Cx),X.prog=P->X.w=w->X.K=K->X.calm=true->∀ (i:Nat) (pins:List (Addr×Obj)) (s:Shared) (σ:St) (H:Hp) (E:Value->Shared->Prop),Inv X pins σ H s->(∀ b∈fp,qJ X pins H b)->tn i s.heap->J.stop i H->
  wpAny (model P w) X.A (pyNext (.ref it)) (fun r s1=>r=none/\Inv X pins σ H s1) E s
 self:∀ (A:Around) (i:Nat) (s:Shared) (Q:Value->Shared->Prop) (E:Value->Shared->Prop),tn i s.heap->Q (.ref it) s->wpAny (model P w) A (pyIter (.ref it)) Q E s
abbrev TI:=St->Hp->(It->Hp->Prop)->Prop
def PIE (X:Cx) (pins:List (Addr×Obj)) (σ:St) (tg:Expr) (R:It->Hp->Prop) (itv:Value) (s2:Shared):Prop:=
 ∃ (it:Addr) (fp:List Addr) (tn:Nat->Heap->Prop) (J:It) (H':Hp),itv=.ref it/\Inv X pins σ H' s2/\Turn X.prog X.w X.K tg J fp it tn/\tn 0 s2.heap/\(∀ b∈fp,qJ X pins H' b)/\R J H'
def PI (X:Cx) (tg iter:Expr) (wi:TI):Prop:=
 ∀ (pins:List (Addr×Obj)) (s:Shared) (σ:St) (H:Hp) (R:It->Hp->Prop),Inv X pins σ H s->wi σ H R->
  wpAny (model X.prog X.w) X.A (eval iter X.env) (fun v s1=>wpAny (model X.prog X.w) X.A (pyIter v) (PIE X pins σ tg R) X.xe s1) X.xe s
theorem zDH {M:Model} {A:Around} {E:Value->Shared->Prop} {s:Shared} {tg:Expr} {it:Addr} {u:Value} {o:Obj} {n:String} {vs:Array Value} {Q:Unit->Shared->Prop} (ho:s.heap.get? it=some o) (hc:o.cls=.type n) (hd:o.data=.fields vs)
    (hn:["enumerate", "zip", "dict_itemiterator", "dict_reverseitemiterator", "odict_iterator", "itertools.zip_longest", "itertools.pairwise"].contains n=false) (hQ:Q () s):wpAny M A (letOwnedTupleGo tg (.ref it) u) Q E s:=by
  unfold letOwnedTupleGo
  cases tg<;>first
    | exact wpAny_pure hQ
    | (cases u<;>first
        | exact wpAny_pure hQ
        | (refine wpAny_bind (wpAny_load ho ?_)
           rw [hc,hd]
           show wpAny M A (if (["enumerate", "zip", "dict_itemiterator", "dict_reverseitemiterator", "odict_iterator", "itertools.zip_longest", "itertools.pairwise"].contains n && vs[0]?==some (rawInt _))=true then _ else _) Q E s
           rw [if_neg (by intro h;rw [hn,Bool.false_and] at h;cases h)]
           exact wpAny_pure hQ))
def Itl (K:PySem.W.Frag) (a:Addr):It:=
 ⟨fun i H=>∃ xs x,SqL K H a xs/\xs[i]?=some x,fun i H x H'=>H'=H/\∀ xs,SqL K H a xs->xs[i]?=some x,fun i H=>∃ xs,SqL K H a xs/\xs.length<=i⟩
def Itt (K:PySem.W.Frag) (a:Addr):It:=
 ⟨fun i H=>∃ xs x,SqT K H a xs/\xs[i]?=some x,fun i H x H'=>H'=H/\∀ xs,SqT K H a xs->xs[i]?=some x,fun i H=>∃ xs,SqT K H a xs/\xs.length<=i⟩
def Itr (lo:Int) (n:Nat):It:=⟨fun i _=>i < n,fun i H x H'=>H'=H/\x=.int (lo+i),fun i _=>n<=i⟩
theorem zAx {P:Program} {w:World} {K:PySem.W.Frag} {tg:Expr} (a it:Addr):Turn P w K tg (Itl K a) [it] it (fun i h=>h.IsListIter it a i) where
 mem:=by simp
 obj:=fun i h st b hb=>by
  have e:b=it:=by simpa using hb
  subst e
  obtain ⟨o,e,c,d⟩:=st
  exact ⟨o,e,fun v z=>by rw [d] at z;cases z⟩
 keep:=fun i h h' st k=>st.at fun o e=>k it (by simp) o e
 item:=by
  intro X hP hw hK hc i pins s σ H E I hf st hg
  subst hP hw hK
  obtain ⟨xs,x,hq,hx⟩:=hg
  obtain ⟨its,rv,p,hz⟩:=I.list hq
  obtain ⟨u,hu,ru⟩:=rv.get hx
  obtain ⟨f0,f1,f2,f3,f4,f5⟩:=hf it (by simp)
  refine wpAny_pyNext_list_item st p.isList (x:=u) (by simpa using hu) fun h' st' sb=>?_
  have I1:Inv X pins σ H { s with heap:=h' }:=I.turned (t':=s.toks) (fun b o hb e=>(sb.2 b hb).trans e) f0 f1 f3 f4 f5
  obtain ⟨o,e,c,d⟩:=id st'
  exact ⟨u,rfl,zDH (s:={ s with heap:=h' }) e c d (by decide) ⟨x,H,I1,ru,⟨rfl,fun ys hy=>by rw [I.list_inj hy hq];exact hx⟩,st',fun b hb=>(hf b hb).1⟩⟩
 done:=by
  intro X hP hw hK hc i pins s σ H E I hf st hg
  subst hP hw hK
  obtain ⟨xs,hq,hx⟩:=hg
  obtain ⟨its,rv,p,hz⟩:=I.list hq
  obtain ⟨f0,f1,f2,f3,f4,f5⟩:=hf it (by simp)
  have hl:=rv.length
  exact wpAny_pyNext_list_end (I.ok.hd hc) st p.isList (by simp;omega) fun h' eb=>⟨rfl,I.turned (t':=s.toks) (fun b o hb e=>eb b o hb e) f0 f1 f3 f4 f5⟩
 self:=fun _ _ _ _ _ st h=>wpAny_pyIter_listiter st h
theorem zDl {P:Program} {w:World} {K:PySem.W.Frag} {tg:Expr} (a it:Addr):Turn P w K tg (Itt K a) [it] it (fun i h=>h.IsTupleIter it a i) where
 mem:=by simp
 obj:=fun i h st b hb=>by
  have e:b=it:=by simpa using hb
  subst e
  obtain ⟨o,e,c,d⟩:=st
  exact ⟨o,e,fun v z=>by rw [d] at z;cases z⟩
 keep:=fun i h h' st k=>st.at fun o e=>k it (by simp) o e
 item:=by
  intro X hP hw hK hc i pins s σ H E I hf st hg
  subst hP hw hK
  obtain ⟨xs,x,hq,hx⟩:=hg
  obtain ⟨its,rv,p,hz⟩:=I.tuple hq
  obtain ⟨u,hu,ru⟩:=rv.get hx
  obtain ⟨f0,f1,f2,f3,f4,f5⟩:=hf it (by simp)
  refine wpAny_pyNext_tuple_item st (show s.heap.IsTuple a its.toArray from p) (x:=u) (by simpa using hu) fun h' st' sb=>?_
  have I1:Inv X pins σ H { s with heap:=h' }:=I.turned (t':=s.toks) (fun b o hb e=>(sb.2 b hb).trans e) f0 f1 f3 f4 f5
  obtain ⟨o,e,c,d⟩:=id st'
  exact ⟨u,rfl,zDH (s:={ s with heap:=h' }) e c d (by decide) ⟨x,H,I1,ru,⟨rfl,fun ys hy=>by rw [I.tuple_inj hy hq];exact hx⟩,st',fun b hb=>(hf b hb).1⟩⟩
 done:=by
  intro X hP hw hK hc i pins s σ H E I hf st hg
  subst hP hw hK
  obtain ⟨xs,hq,hx⟩:=hg
  obtain ⟨its,rv,p,hz⟩:=I.tuple hq
  obtain ⟨f0,f1,f2,f3,f4,f5⟩:=hf it (by simp)
  have hl:=rv.length
  exact wpAny_pyNext_tuple_end (I.ok.hd hc) st (show s.heap.IsTuple a its.toArray from p) (by simp;omega) fun h' eb=>⟨rfl,I.turned (t':=s.toks) (fun b o hb e=>eb b o hb e) f0 f1 f3 f4 f5⟩
 self:=fun _ _ _ _ _ st h=>wpAny_pyIter_tupleiter st h
theorem zDt {P:Program} {w:World} {K:PySem.W.Frag} {tg:Expr} (it:Addr) (lo:Int) (n:Nat):Turn P w K tg (Itr lo n) [it] it (fun i h=>IsRangeIter h it (lo+(i:Nat) * 1) ((n:Int) - (i:Nat)) 1) where
 mem:=by simp
 obj:=fun i h st b hb=>by
  have e:b=it:=by simpa using hb
  subst e
  exact ⟨_,st,fun v z=>by
   have z':Data.fields _=Data.cell v:=z
   cases z'⟩
 keep:=fun i h h' st k=>k it (by simp) _ st
 item:=by
  intro X hP hw hK hc i pins s σ H E I hf st hg
  subst hP hw hK
  obtain ⟨f0,f1,f2,f3,f4,f5⟩:=hf it (by simp)
  have W:=Walks.range (prog:=X.prog) (w:=X.w) (I.ok.hd hc) it lo 1 n
  refine W.item i s _ _ hg st fun v h' tk hv st' kk=>?_
  obtain ⟨t,rfl⟩:=hv
  have I1:Inv X pins σ H { s with heap:=h',toks:=tk }:=I.turned (fun b o hb e=>kk b o (by simpa using hb) e) f0 f1 f3 f4 f5
  refine ⟨_,rfl,zDH (s:={ s with heap:=h',toks:=tk }) (n := "range_iterator") st' rfl rfl (by decide) ⟨.int (lo+i),H,I1,⟨t,?_⟩,⟨rfl,rfl⟩,st',fun b hb=>(hf b hb).1⟩⟩
  rw [Int.mul_one]
 done:=by
  intro X hP hw hK hc i pins s σ H E I hf st hg
  subst hP hw hK
  obtain ⟨f0,f1,f2,f3,f4,f5⟩:=hf it (by simp)
  exact wpAny_pyNext_range_end (I.ok.hd hc) st (by have:n<=i:=hg;omega) fun h' eb=>⟨rfl,I.turned (t':=s.toks) (fun b o hb e=>eb b o hb e) f0 f1 f3 f4 f5⟩
 self:=fun _ _ _ _ _ st h=>wpAny_pyIter_rangeiter st h
end L2
namespace L2
open PySem PySem.Spec PyProof.Rows
section
variable {X:Cx} {tg:Expr}
abbrev zMT (K:PySem.W.Frag) (tl:TE):TI:=fun σ H R=>tl σ H fun x H1=>∃ a,x=.ref a/\(∃ xs,SqL K H1 a xs)/\R (Itl K a) H1
theorem zJR {l:Expr} {tl:TE} (hl:PE X l tl):PI X tg l (zMT X.K tl):=by
 intro pins s σ H R I h
 refine thn (hl pins s σ H _ I h) fun v s1 ⟨x,H1,I1,r1,q1⟩=>?_
 obtain ⟨a,e,⟨xs,hq⟩,q⟩:=q1
 subst e
 cases r1
 obtain ⟨its,rv,p,hz⟩:=I1.list hq
 refine wpAny_pyIter_list p.isList ?_
 refine ⟨s1.heap.objs.size,[s1.heap.objs.size],_,_,H1,rfl,I1.kept (t':=s1.toks) fun b o e=>Heap.get?_push_of_some _ e,zAx a _,⟨_,Heap.get?_push_size _ rfl,rfl,rfl⟩,fun b hb=>?_,q⟩
 have e:b=s1.heap.objs.size:=by simpa using hb
 subst e
 exact I1.fpOk (Nat.le_refl _) (I1.hok.fresh (Nat.le_refl _))
theorem zCh {pins:List (Addr×Obj)} {σ:St} {H:Hp} {s:Shared} {R:It->Hp->Prop} {E:Value->Shared->Prop} {lo hi:Int} {t u v:Tok} {tk:Nat} (I:Inv X pins σ H s) (h1:-(2^62)<=lo) (h2:lo < 2^62) (h3:-(2^62)<=hi) (h4:hi < 2^62)
  (q:R (Itr lo (hi - lo).toNat) H):wpAny (model X.prog X.w) X.A (pyIter (.ref s.heap.objs.size)) (PIE X pins σ tg R) E { s with heap:=s.heap.push { cls:=.type "range", data:=.fields #[.int lo t,.int hi u,.int 1 v] },toks:=tk }:=by
 refine wpAny_pyIter_range (IsRange.new ..) (small_one h1 h2 h3 h4) ?_
 have I1:Inv X pins σ H { s with heap:=s.heap.push { cls:=.type "range", data:=.fields #[.int lo t,.int hi u,.int 1 v] },toks:=tk }:=I.kept fun b o e=>Heap.get?_push_of_some _ e
 refine ⟨(s.heap.push { cls:=.type "range", data:=.fields #[.int lo t,.int hi u,.int 1 v] }).objs.size,[(s.heap.push { cls:=.type "range", data:=.fields #[.int lo t,.int hi u,.int 1 v] }).objs.size],_,_,H,rfl,
  I1.kept (t':=tk) fun b o e=>Heap.get?_push_of_some _ e,zDt _ lo (hi - lo).toNat,?_,fun b hb=>?_,q⟩
 ·have e1:lo+((0:Nat):Int) * 1=lo:=by simp
  have e2:(((hi - lo).toNat:Nat):Int) - ((0:Nat):Int)=Builtin.Range.rangeSize lo hi 1:=by rw [rangeSize_one];split<;>omega
  show IsRangeIter _ _ (lo+((0:Nat):Int) * 1) ((((hi - lo).toNat:Nat):Int) - ((0:Nat):Int)) 1
  rw [e1,e2]
  exact Heap.get?_push_size _ rfl
 ·have e:b=(s.heap.push { cls:=.type "range", data:=.fields #[.int lo t,.int hi u,.int 1 v] }).objs.size:=by simpa using hb
  subst e
  exact I1.fpOk (Nat.le_refl _) (I1.hok.fresh (Nat.le_refl _))
abbrev zAu (ta:TA):TI:=fun σ H R=>ta σ H fun vs H1=>∃ j:Int,vs=[.int j]/\-(2^62)<=j/\j < 2^62/\R (Itr 0 j.toNat) H1
abbrev zDJ (ta:TA):TI:=fun σ H R=>ta σ H fun vs H1=>∃ i j:Int,vs=[.int i,.int j]/\(-(2^62)<=i/\i < 2^62/\-(2^62)<=j/\j < 2^62)/\R (Itr i (j - i).toNat) H1
theorem zFs {a:Expr} {ta:TA} {p pos:Pos} (hg:Gl X "range") (hm:X.mg "range" = none) (ha:PA X [a] ta) (hs:starEach [a] X.env=[(false,eval a X.env)]:=by rfl):PI X tg (.Call (.Name "range" p) [a] [] pos) (zAu ta):=by
 intro pins s σ H R I h
 refine Call_ (lQ I hg hm boot_range (PyProof.Rows.callWith_type1 (thn (ha pos pins s σ H _ I h) fun us s1 ⟨vs,H1,I1,r1,q1⟩=>?_) hs rfl))
 obtain ⟨j,e,q1,q2,q⟩:=q1
 subst e
 cases r1 with
 | cons r rr=>
  cases rr
  obtain ⟨t,rfl⟩:=r
  exact call_range_1 (zCh I1 (by omega) (by omega) q1 q2 (by simpa using q))
theorem zEg {a b:Expr} {ta:TA} {p pos:Pos} (hg:Gl X "range") (hm:X.mg "range" = none) (ha:PA X [a,b] ta) (hs:starEach [a,b] X.env=[(false,eval a X.env),(false,eval b X.env)]:=by rfl) (hs2:starEach [b] X.env=[(false,eval b X.env)]:=by rfl):
  PI X tg (.Call (.Name "range" p) [a,b] [] pos) (zDJ ta):=by
 intro pins s σ H R I h
 refine Call_ (lQ I hg hm boot_range (PyProof.Rows.callWith_type1 (thn (ha pos pins s σ H _ I h) fun us s1 ⟨vs,H1,I1,r1,q1⟩=>?_) (by rw [hs,hs2]) (by rw [hs2];rfl)))
 obtain ⟨i,j,e,⟨q1,q2,q3,q4⟩,q⟩:=q1
 subst e
 cases r1 with
 | cons r rr=>
  cases rr with
  | cons r' rr=>
   cases rr
   obtain ⟨t,rfl⟩:=r
   obtain ⟨t',rfl⟩:=r'
   exact call_range_2 (zCh I1 q1 q2 q3 q4 q)
abbrev zNA (wi:TI) (g:TG) (tb:TS):TS:=fun D σ H=>wi σ H fun J H1=>∃ W:Nat->Nat->St->Hp->Prop,(∃ m,W 0 m σ H1)/\∀ i m σ H,W i m σ H->
 (J.stop i H/\D.nx σ H)∨(J.go i H/\∃ N:St->Hp->Prop,(∀ σ' H',N σ' H'->∃ m',m' < m/\W (i+1) m' σ' H')/\∀ x H',J.yld i H x H'->g x σ H' fun σ2 H2=>tb { D with nx:=N,ct:=N,bk:=D.nx } σ2 H2)
def sP (fp:List Addr) (h:Heap):List (Addr×Obj):=fp.filterMap fun b=>(h.get? b).map fun o=>(b,o)
theorem eM {fp:List Addr} {h:Heap} {b:Addr} {o:Obj} (hb:b∈fp) (e:h.get? b=some o):(b,o)∈sP fp h:=List.mem_filterMap.mpr ⟨b,hb,by rw [e];rfl⟩
theorem zEw {fp:List Addr} {h:Heap} {p:Addr×Obj} (hp:p∈sP fp h):p.1∈fp/\h.get? p.1=some p.2:=by
 obtain ⟨b,hb,e⟩:=List.mem_filterMap.mp hp
 cases q:h.get? b with
 | none=>rw [q] at e;cases e
 | some o=>
  rw [q] at e
  have e':(b,o)=p:=Option.some.inj e
  subst e'
  exact ⟨hb,q⟩
theorem Inv.pinned {pins:List (Addr×Obj)} {σ:St} {H:Hp} {s:Shared} {fp:List Addr} (I:Inv X pins σ H s) (hf:∀ b∈fp,qJ X pins H b) (ho:∀ b∈fp,∃ o,s.heap.get? b=some o/\∀ v,o.data≠.cell v):Inv X (pins++sP fp s.heap) σ H s:=
 I.pins_of fun p hp=>(List.mem_append.mp hp).elim (fun z=>I.pin p (List.mem_append_right _ z)) fun z=>by
  obtain ⟨hb,e⟩:=zEw z
  obtain ⟨f0,f1,f2,_⟩:=hf p.1 hb
  obtain ⟨o,e',d⟩:=ho p.1 hb
  rw [e] at e';cases e'
  exact ⟨e,f0,f1,f2,d⟩
theorem Inv.unpinned {pins pl:List (Addr×Obj)} {σ:St} {H:Hp} {s:Shared} (I:Inv X (pins++pl) σ H s):Inv X pins σ H s:=I.pins_of fun p hp=>I.pin p (List.mem_append_right _ (List.mem_append_left _ hp))
theorem zHZ {iter:Expr} {body:List Stmt} {wi:TI} {g:TG} {tb:TS} {pos:Pos} (hp:PassesOwn (model X.prog X.w) X.A X.env X.xe) (hc:X.calm=true) (hi:PI X tg iter wi) (hg:PG X tg g) (hb:PSs X body tb)
  (hs:∀ x,foldedSetIterable iter X.env x=pure x:=by intro _;rfl):PS X (.For tg iter body [] pos) (zNA wi g tb):=by
 intro pins s σ H D I h
 refine wpAny_For (thn (hi pins s σ H _ I h) fun v s1 h1=>thn h1 fun itv s2 h2=>?_) hs
 obtain ⟨it,fp,tn,J,H2,e,I2,T,st2,f2,W,⟨m0,w0⟩,turn⟩:=h2
 subst e
 have stat:∀ {H':Hp},(∀ b∈fp,H' b=none)->∀ b∈fp,qJ X pins H' b:=fun hn b hb=>⟨hn b hb,(f2 b hb).2⟩
 refine codeAny_forLoop_any (fun n s'=>∃ i σ' H',Inv X pins σ' H' s'/\tn i s'.heap/\(∀ b∈fp,H' b=none)/\W i n σ' H') ?_ m0 ⟨0,σ,H2,I2,st2,fun b hb=>(f2 b hb).1,w0⟩
 rintro n s3 ⟨i,σ3,H3,I3,st3,fr3,w3⟩
 rcases turn i n σ3 H3 w3 with ⟨stop,qn⟩ | ⟨go,N,hN,step⟩
 ·refine wpAny_passesOwn hp (thn (T.done X rfl rfl rfl hc i pins s3 σ3 H3 X.xe I3 (stat fr3) st3 stop) fun r s4 ⟨hr,I4⟩=>?_)
  subst hr
  exact wpAny_execs_nil ⟨σ3,H3,I4,qn⟩
 ·refine wpAny_passesOwn hp (thn (T.item X rfl rfl rfl hc i pins s3 σ3 H3 X.xe I3 (stat fr3) st3 go) fun r s4 ⟨u,hr,h4⟩=>?_)
  subst hr
  refine wpAny_passesOwn hp (thn h4 fun _ s5 ⟨x,H5,I5,r5,y5,st5,fr5⟩=>?_)
  have I5':=I5.pinned (stat fr5) (T.obj _ _ st5)
  refine wpAny_passesOwn hp (thn (hg _ s5 σ3 H5 x u _ I5' r5 (step x H5 y5)) fun _ s6 ⟨σ6,H6,I6,q6⟩=>?_)
  refine wpAny_passesOwn hp (thn (hb _ s6 σ6 H6 _ I6 q6) fun f s7 q7=>?_)
  have again:∀ {σ7:St} {H7:Hp},Inv X (pins++sP fp s5.heap) σ7 H7 s7->N σ7 H7->∃ m,m < n/\∃ i σ' H',Inv X pins σ' H' s7/\tn i s7.heap/\(∀ b∈fp,H' b=none)/\W i m σ' H':=fun {σ7 H7} I7 n7=>by
   obtain ⟨m',hm,w7⟩:=hN σ7 H7 n7
   refine ⟨m',hm,i+1,σ7,H7,I7.unpinned,T.keep _ _ _ st5 fun b hb o e=>(I7.pin (b,o) (List.mem_append_right _ (List.mem_append_right _ (eM hb e)))).1,fun b hb=>?_,w7⟩
   obtain ⟨o,e,d⟩:=T.obj _ _ st5 b hb
   exact (I7.pin (b,o) (List.mem_append_right _ (List.mem_append_right _ (eM hb e)))).2.1
  cases f with
  | next=>obtain ⟨σ7,H7,I7,n7⟩:=q7;exact again I7 n7
  | cont=>obtain ⟨σ7,H7,I7,n7⟩:=q7;exact again I7 n7
  | brk=>obtain ⟨σ7,H7,I7,q7⟩:=q7;exact ⟨σ7,H7,I7.unpinned,q7⟩
  | ret v=>obtain ⟨x7,σ7,H7,I7,r7,q7⟩:=q7;exact ⟨x7,σ7,H7,I7.unpinned,r7,q7⟩
end
end L2
namespace L2
open PySem PySem.Spec PyProof.Rows
abbrev R2:=V->V->Hp->VK->Prop
def OpR (X:Cx) (f:Value->Value->Sem Value) (r:R2):Prop:=
 ∀ (pins:List (Addr×Obj)) (s:Shared) (σ:St) (H:Hp) (x y:V) (v u:Value) (Q:VK),Inv X pins σ H s->cY x v->cY y u->r x y H Q->
  wpAny (model X.prog X.w) X.A (f v u) (EP X pins σ Q) X.xe s
def UnR (X:Cx) (f:Value->Sem Value) (r:V->Hp->VK->Prop):Prop:=
 ∀ (pins:List (Addr×Obj)) (s:Shared) (σ:St) (H:Hp) (x:V) (v:Value) (Q:VK),Inv X pins σ H s->cY x v->r x H Q->
  wpAny (model X.prog X.w) X.A (f v) (EP X pins σ Q) X.xe s
def uJ (X:Cx) (f:Value) (r:List V->Hp->VK->Prop):Prop:=
 ∀ (pins:List (Addr×Obj)) (s:Shared) (σ:St) (H:Hp) (xs:List V) (us:List Value) (Q:VK),Inv X pins σ H s->dG xs us->r xs H Q->
  wpAny (model X.prog X.w) X.A (call f us) (EP X pins σ Q) X.xe s
abbrev tOp (r:R2) (ta tb:TE):TE:=fun σ H Q=>ta σ H fun x H1=>tb σ H1 fun y H2=>r x y H2 Q
abbrev tUn (r:V->Hp->VK->Prop) (ta:TE):TE:=fun σ H Q=>ta σ H fun x H1=>r x H1 Q
def rI (C:Int->Int->Prop) (g:Int->Int->V):R2:=fun x y H Q=>∃ i j,x=.int i/\y=.int j/\C i j/\Q (g i j) H
def rI0 (g:Int->Int->V):R2:=fun x y H Q=>∃ i j,x=.int i/\y=.int j/\Q (g i j) H
def rU (g:Int->V):V->Hp->VK->Prop:=fun x H Q=>∃ i,x=.int i/\Q (g i) H
section
variable {X:Cx} {a b c:Expr} {ta tb tc:TE} {pos:Pos}
theorem zMt (ha:PE X a ta) (hb:PE X b tb) {pins:List (Addr×Obj)} {s:Shared} {σ:St} {H:Hp} {R:V->V->Hp->Prop} (I:Inv X pins σ H s)
  (h:ta σ H fun x H1=>tb σ H1 fun y H2=>R x y H2) {Q:Value->Shared->Prop} {f:Value->Value->Sem Value}
  (hf:∀ v u s2 x y H2,Inv X pins σ H2 s2->cY x v->cY y u->R x y H2->wpAny (model X.prog X.w) X.A (f v u) Q X.xe s2):
  wpAny (model X.prog X.w) X.A (eval a X.env) (fun v s₁=>wpAny (model X.prog X.w) X.A (eval b X.env) (fun u s₂=>wpAny (model X.prog X.w) X.A (f v u) Q X.xe s₂) X.xe s₁) X.xe s:=by
 refine thn (ha pins s σ H _ I h) fun v s1 ⟨x,H1,I1,r1,q1⟩=>?_
 refine thn (hb pins s1 σ H1 _ I1 q1) fun u s2 ⟨y,H2,I2,r2,q2⟩=>?_
 exact hf v u s2 x y H2 I2 r1 r2 q2
theorem zEn {op:Operator} {r:R2} (ho:OpR X (binaryOp op) r) (ha:PE X a ta) (hb:PE X b tb):PE X (.BinOp a op b pos) (tOp r ta tb):=by
 intro pins s σ H Q I h
 exact wpAny_BinOp (zMt ha hb I h fun v u s2 x y H2 I2 rx ry q=>ho pins s2 σ H2 x y v u Q I2 rx ry q)
theorem zNb {op:UnaryOp} {r:V->Hp->VK->Prop} (ho:UnR X (unaryOp op) r) (ha:PE X a ta):PE X (.UnaryOp op a pos) (tUn r ta):=by
 intro pins s σ H Q I h
 exact UnaryOp_ (thn (ha pins s σ H _ I h) fun v s1 ⟨x,H1,I1,r1,q1⟩=>ho pins s1 σ H1 x v Q I1 r1 q1)
theorem opI {f:Value->Value->Sem Value} {C:Int->Int->Prop} {g:Int->Int->Int}
  (rule:∀ (i j:Int) (t u:Tok) (s:Shared) (Q:Value->Shared->Prop) (E:Value->Shared->Prop),C i j->Q (.int (g i j) s.toks) { s with toks:=s.toks+1 }->wpAny (model X.prog X.w) X.A (f (.int i t) (.int j u)) Q E s):
  OpR X f (rI C fun i j=>.int (g i j)):=by
 intro pins s σ H x y v u Q I rx ry h
 obtain ⟨i,j,rfl,rfl,hc,q⟩:=h
 obtain ⟨t,rfl⟩:=rx
 obtain ⟨t',rfl⟩:=ry
 exact rule i j t t' s _ _ hc ⟨.int (g i j),H,I.tok _,⟨_,rfl⟩,q⟩
theorem zNC {f:Value->Value->Sem Value} {g:Int->Int->Int}
  (rule:∀ (i j:Int) (t u:Tok) (s:Shared) (Q:Value->Shared->Prop) (E:Value->Shared->Prop),Q (.int (g i j) s.toks) { s with toks:=s.toks+1 }->wpAny (model X.prog X.w) X.A (f (.int i t) (.int j u)) Q E s):
  OpR X f (rI0 fun i j=>.int (g i j)):=by
 intro pins s σ H x y v u Q I rx ry h
 obtain ⟨i,j,rfl,rfl,q⟩:=h
 obtain ⟨t,rfl⟩:=rx
 obtain ⟨t',rfl⟩:=ry
 exact rule i j t t' s _ _ ⟨.int (g i j),H,I.tok _,⟨_,rfl⟩,q⟩
theorem zNF {f:Value->Value->Sem Value} {g:Int->Int->Bool}
  (rule:∀ (i j:Int) (t u:Tok) (s:Shared) (Q:Value->Shared->Prop) (E:Value->Shared->Prop),Q (.bool (g i j)) s->wpAny (model X.prog X.w) X.A (f (.int i t) (.int j u)) Q E s):
  OpR X f (rI0 fun i j=>.bl (g i j)):=by
 intro pins s σ H x y v u Q I rx ry h
 obtain ⟨i,j,rfl,rfl,q⟩:=h
 obtain ⟨t,rfl⟩:=rx
 obtain ⟨t',rfl⟩:=ry
 exact rule i j t t' s _ _ ⟨.bl (g i j),H,I,rfl,q⟩
def zMc (i j:Int):Prop:=(-(2^64) < i/\i < 2^64)∨(-(2^64) < j/\j < 2^64)
theorem zMc.ok {i j:Int} (h:zMc i j):IntMulOk i j:=by
 rcases h with ⟨h1,h2⟩ | ⟨h1,h2⟩
 ·exact .of_left (intBits_le_64 h1 h2)
 ·exact .of_right (intBits_le_64 h1 h2)
theorem zKk:OpR X (binaryOp .Add) (rI0 fun i j=>.int (i+j)):=zNC fun _ _ _ _ _ _ _ q=>add_int q
theorem kC:OpR X (binaryOp .Sub) (rI0 fun i j=>.int (i - j)):=zNC fun _ _ _ _ _ _ _ q=>sub_int q
theorem bZ:OpR X (binaryOp .Mod) (rI (fun _ j=>j≠0) fun i j=>.int (i.fmod j)):=opI fun _ _ _ _ _ _ _ hc q=>mod_int' hc q
theorem unI {f:Value->Sem Value} {g:Int->Int}
  (rule:∀ (i:Int) (t:Tok) (s:Shared) (Q:Value->Shared->Prop) (E:Value->Shared->Prop),Q (.int (g i) s.toks) { s with toks:=s.toks+1 }->wpAny (model X.prog X.w) X.A (f (.int i t)) Q E s):
  UnR X f (rU fun i=>.int (g i)):=by
 intro pins s σ H x v Q I rx h
 obtain ⟨i,rfl,q⟩:=h
 obtain ⟨t,rfl⟩:=rx
 exact rule i t s _ _ ⟨.int (g i),H,I.tok _,⟨_,rfl⟩,q⟩
theorem zLi:UnR X (unaryOp .USub) (rU fun i=>.int (-i)):=unI fun _ _ _ _ _ q=>neg_int q
end
section
variable {X:Cx} {a b c:Expr} {ta tb tc:TE} {pos:Pos}
theorem zAU:OpR X (compareOp .Lt) (rI0 fun i j=>.bl (decide (i < j))):=zNF fun _ _ _ _ _ _ _ q=>lt_int q
theorem zGH:OpR X (compareOp .Gt) (rI0 fun i j=>.bl (decide (j < i))):=zNF fun _ _ _ _ _ _ _ q=>gt_int q
theorem OpR.or {f:Value->Value->Sem Value} {r r':R2} (h:OpR X f r) (h':OpR X f r'):OpR X f (fun x y H Q=>r x y H Q∨r' x y H Q):=by
 intro pins s σ H x y v u Q I rx ry q
 rcases q with q | q
 ·exact h pins s σ H x y v u Q I rx ry q
 ·exact h' pins s σ H x y v u Q I rx ry q
theorem bL (b:Expr) {op:CmpOp} (h:op≠.In:=by decide) (h2:op≠.NotIn:=by decide):behindInMarks op b=false:=by
 have e1:(op==CmpOp.In)=false:=by cases op<;>first | rfl | exact absurd rfl h
 have e2:(op==CmpOp.NotIn)=false:=by cases op<;>first | rfl | exact absurd rfl h2
 cases b<;>simp [behindInMarks,e1,e2]
theorem zIi {op:CmpOp} {r:R2} (ho:OpR X (compareOp op) r) (ha:PE X a ta) (hb:PE X b tb) (hm:behindInMarks op b=false):PE X (.Compare a [op] [b] pos) (tOp r ta tb):=by
 intro pins s σ H Q I h
 exact wpAny_Compare1 (zMt ha hb I h fun v u s2 x y H2 I2 rx ry q=>ho pins s2 σ H2 x y v u Q I2 rx ry q) hm
abbrev zKK (t:TE):TT:=fun σ H Q=>t σ H fun x H'=>∃ k,x=.bl k/\Q k H'
theorem zFw {op:CmpOp} {r:R2} (ho:OpR X (compareOp op) r) (ha:PE X a ta) (hb:PE X b tb) (hm:behindInMarks op b=false):PT X (.Compare a [op] [b] pos) (zKK (tOp r ta tb)):=by
 intro pins s σ H Q I h
 refine wpAny_isTrue_Compare1 (thn (ha pins s σ H _ I h) fun v s1 ⟨x,H1,I1,r1,q1⟩=>thn (hb pins s1 σ H1 _ I1 q1) fun u s2 ⟨y,H2,I2,r2,q2⟩=>
  thn (ho pins s2 σ H2 x y v u _ I2 r1 r2 q2) fun c s3 ⟨z,H3,I3,r3,k,e,q3⟩=>?_) hm
 subst e
 cases r3
 exact wpAny_truthy_bool ⟨H3,I3,q3⟩
theorem zBH:(sizeLine:Nat) < 2^63:=by rw [sizeLine_eq];decide
theorem zCP {x:V} {us:List Value} (r:dG [x] us):∃ u,us=[u]/\cY x u:=by
 cases r with
 | cons r1 r2=>cases r2;exact ⟨_,rfl,r1⟩
theorem zMN {x y:V} {us:List Value} (r:dG [x,y] us):∃ u w',us=[u,w']/\cY x u/\cY y w':=by
 cases r with
 | cons r1 r2=>
  cases r2 with
  | cons r3 r4=>cases r4;exact ⟨_,_,rfl,r1,r3⟩
theorem qN:uJ X (.builtin "abs") (fun xs H Q=>∃ i,xs=[.int i]/\Q (.int (if i < 0 then -i else i)) H):=by
 intro pins s σ H xs us Q I r h
 obtain ⟨i,rfl,q⟩:=h
 obtain ⟨u,rfl,t,rfl⟩:=zCP r
 exact call_abs_int fun u tk=>⟨.int (if i < 0 then -i else i),H,I.tok _,⟨_,rfl⟩,q⟩
end
end L2
namespace L2
open PySem PySem.Spec PyProof.Rows
section
variable {prog:Program} {w:World} {A:Around} {E:Value->Shared->Prop} {s:Shared} {K:PySem.W.Frag} {x dx C f:Addr} {mA:Str->Option Value} {name:Str} {v:Value}
end
section
variable {P:Program} {w:World} {H H':Hp} {h h':Heap} {a C dx:Addr} {fs fs':List (Str×V)}
end
section
variable {X:Cx} {pins:List (Addr×Obj)} {σ:St} {H:Hp} {s:Shared} {a C dx:Addr} {fs:List (Str×V)} {f:Str} {v:V} {A:Around} {E:Value->Shared->Prop}
end
section
variable {X:Cx} {o e value:Expr} {f:Str} {pos pos' tpos:Pos} {ta tv:TE}
end
section
variable {X:Cx} {pins:List (Addr×Obj)} {σ:St} {H:Hp} {s:Shared} {A:Around} {E:Value->Shared->Prop} {Q:Value->Shared->Prop} {c:Value} {b:Bool}
end
end L2
namespace L2
open PySem PySem.Spec PyProof.Rows
structure Room (k:Nat) (A:Around):Prop where
 hd:A.handled=none
 dp:A.depth+3 * k+5 < recursionLimit
 un:A.units+16 * k+200 < cLine
theorem Room.mono {j k:Nat} {A:Around} (r:Room k A) (h:j<=k):Room j A:=⟨r.hd,by have:=r.dp;omega,by have:=r.un;omega⟩
theorem Room.deeper {k:Nat} {A:Around} (r:Room (k+1) A) (env:Env):Room k (A.deeper env):=
 ⟨r.hd,by have:=r.dp;show A.depth+1+3 * k+5 < _;omega,by have:=r.un;show A.units+3+16 * k+200 < _;omega⟩
theorem Room.depth {k:Nat} {A:Around} (r:Room k A):A.depth < recursionLimit:=by have:=r.dp;omega
theorem Room.units {k:Nat} {A:Around} (r:Room k A):A.units+64 < cLine:=by have:=r.un;omega
abbrev zOo:TA:=fun _ H Q=>Q [] H
abbrev zMR (ta:TE) (tr:TA):TA:=fun σ H Q=>ta σ H fun x H1=>tr σ H1 fun xs H2=>Q (x::xs) H2
section
variable {X:Cx} {e:Expr} {es:List Expr} {te:TE} {t:TA} {pos:Pos}
theorem pX:PA X [] zOo:=fun _ _ _ _ H Q I h=>Calls.spliced_nil ⟨[],H,I,.nil,h⟩
theorem jN (ha:PE X e te) (hr:PA X es t) (hs:starEach (e::es) X.env=(false,eval e X.env)::starEach es X.env:=by rfl):PA X (e::es) (zMR te t):=by
 intro pos pins s σ H Q I h
 rw [hs]
 show wpAny _ _ (spliced ((false,eval e X.env)::backTo pos (starEach es X.env))) _ _ s
 refine Calls.spliced_cons (thn (ha pins s σ H _ I h) fun u s1 ⟨x,H1,I1,r1,q1⟩=>?_)
 exact thn (hr pos pins s1 σ H1 _ I1 q1) fun us s2 ⟨xs,H2,I2,r2,q2⟩=>⟨x::xs,H2,I2,.cons r1 r2,q2⟩
abbrev zOi (t:TA):TE:=fun σ H Q=>t σ H fun xs H1=>xs.length<=sizeLine/\∀ p,H1 p=none->Q (.ref p) (upd H1 p (.tup xs))
abbrev zOn (t:TA):TE:=fun σ H Q=>t σ H fun xs H1=>xs.length<=sizeLine/\∀ p,H1 p=none->Q (.ref p) (upd H1 p (.lst xs))
theorem zKN {x1} (h:PA X es t):PE X (.Tuple es x1 pos) (zOi t):=by
 intro pins s σ H Q I hq
 refine wpAny_Tuple_spliced (thn (h pos pins s σ H _ I hq) fun us s1 ⟨xs,H1,I1,r,z,q⟩=>⟨by rw [<-r.length];exact z,?_⟩)
 have hf:H1 s1.heap.objs.size=none:=I1.hok.fresh (Nat.le_refl _)
 refine ⟨.ref s1.heap.objs.size,upd H1 s1.heap.objs.size (.tup xs),I1.laid (t':=s1.toks) (fun b u e=>Heap.get?_push_of_some _ e) (Nat.le_refl _) ?_,rfl,q _ hf⟩
 exact ⟨z,us,r,⟨_,Heap.get?_push_size _ rfl,rfl,_,rfl⟩⟩
theorem zKL (h:PA X es t):PE X (.List es pos) (zOn t):=by
 intro pins s σ H Q I hq
 refine wpAny_List_spliced (thn (h pos pins s σ H _ I hq) fun us s1 ⟨xs,H1,I1,r,z,q⟩=>⟨by rw [<-r.length];exact z,?_⟩)
 have hf:H1 s1.heap.objs.size=none:=I1.hok.fresh (Nat.le_refl _)
 refine ⟨.ref s1.heap.objs.size,upd H1 s1.heap.objs.size (.lst xs),I1.laid (t':=s1.toks) (fun b u e=>Heap.get?_push_of_some _ e) (Nat.le_refl _) ?_,rfl,q _ hf⟩
 exact ⟨z,us,0,r,Heap.get?_push_size _ rfl⟩
end
abbrev Sp:=List V->Hp->VK->XK->Prop
abbrev CXT:=List Env->Hp->Shared->XK->Value->Shared->Prop
structure Env0 (P:Program) (w:World) (K:PySem.W.Frag) (mg:Str->Option Value) (base:Heap) (A:Around) (outer:List Env) (s:Shared) (H:Hp):Prop where
 frames:A.frames=some outer
 mod:Mod K mg base
 bs:∀ b o,base.get? b=some o->s.heap.get? b=some o/\H b=none
 bsz:base.objs.size<=s.heap.objs.size
 funs:s.heap.FunFrames base outer
 frf:∀ b∈frs outer,H b=none
 hok:HOk P w H s.heap
 bare:AllBare s.gens
def CE (outer:List Env) (P:Program) (w:World) (H:Hp) (s:Shared) (Q:VK) (u:Value) (s':Shared):Prop:=
 ∃ v H',s'.os=s.os/\AllBare s'.gens/\Un (frs outer) [] H H' s.heap s'.heap/\HOk P w H' s'.heap/\cY v u/\Q v H'
def CR (CX:CXT) (outer:List Env) (P:Program) (w:World) (H:Hp) (s:Shared) (Q:VK) (E:XK) (r:Result) (s':Shared):Prop:=
 match r with
 | .ok (.ret u)=>CE outer P w H s Q u s'
 | .ok _=>False
 | .error e=>CX outer H s E e s'
structure FnOk (P:Program) (w:World) (K:PySem.W.Frag) (mg:Str->Option Value) (base:Heap) (CX:CXT) (k:Nat) (f:Addr) (fd:FuncData) (ps:List Str) (sp:Sp):Prop where
 len:∀ vs H Q E,sp vs H Q E->vs.length=ps.length
 run:∀ (A:Around) (outer:List Env) (s:Shared) (H:Hp) (args:Args) (us:List Value) (vs:List V) (Q:VK) (E:XK),Room k A->Env0 P w K mg base A outer s H->BindsTo s fd args (ps.zip us)->dG vs us->sp vs H Q E->
  codeAny (model P w) A (.call (.ref f) args) (CR CX outer P w H s Q E) s
theorem FnOk.mono {P:Program} {w:World} {K:PySem.W.Frag} {mg:Str->Option Value} {base:Heap} {CX:CXT} {j k:Nat} {f:Addr} {fd:FuncData} {ps:List Str} {sp:Sp} (F:FnOk P w K mg base CX j f fd ps sp) (h:j<=k):
  FnOk P w K mg base CX k f fd ps sp:=⟨F.len,fun A outer s H args us vs Q E hr=>F.run A outer s H args us vs Q E (hr.mono h)⟩
theorem FnOk.imp {P:Program} {w:World} {K:PySem.W.Frag} {mg:Str->Option Value} {base:Heap} {CX:CXT} {k:Nat} {f:Addr} {fd:FuncData} {ps:List Str} {sp sp':Sp} (F:FnOk P w K mg base CX k f fd ps sp)
  (h:∀ vs H Q E,sp' vs H Q E->sp vs H Q E):FnOk P w K mg base CX k f fd ps sp':=
 ⟨fun vs H Q E q=>F.len vs H Q E (h _ _ _ _ q),fun A outer s H args us vs Q E hr he hb hv hs=>F.run A outer s H args us vs Q E hr he hb hv (h _ _ _ _ hs)⟩
theorem Env0.in1 {P:Program} {w:World} {K:PySem.W.Frag} {mg:Str->Option Value} {base:Heap} {A:Around} {outer:List Env} {s:Shared} {H:Hp} (e:Env0 P w K mg base A outer s H):
  Env0 P w K mg base A.in1 outer s H:=⟨e.frames,e.mod,e.bs,e.bsz,e.funs,e.frf,e.hok,e.bare⟩
section
variable {X:Cx} {pins:List (Addr×Obj)} {σ:St} {H:Hp} {s s':Shared}
theorem Inv.env0 (I:Inv X pins σ H s):Env0 X.prog X.w X.K X.mg X.base X.A X.stack s H:=
 ⟨I.ok.frames,I.ok.mod,I.bs,Nat.le_trans I.ok.bsz I.sz,I.stack,I.stkFree,I.hok,I.bare⟩
theorem Inv.after {Q:VK} {u:Value} (I:Inv X pins σ H s) (h:CE X.stack X.prog X.w H s Q u s'):EP X pins σ Q u s':=by
 obtain ⟨v,H',os,bare,un,hok,r,q⟩:=h
 obtain ⟨hh,g,d,t,os'⟩:=s'
 obtain rfl:os'=s.os:=os
 exact ⟨v,H',I.call (h':=hh) (g':=g) (d':=d) (t':=t) (ch:=[]) un hok bare (fun b z=>absurd z (by simp)),r,q⟩
end
abbrev zJB (sp:Sp) (dvs:List V) (E:XK) (t:TA):TE:=fun σ H Q=>t σ H fun vs H1=>sp (vs++dvs) H1 Q E
def zAe (K:PySem.W.Frag) (fd:FuncData) (ps:List Str) (ds:List Value):Prop:=
 ∀ (s:Shared) (us:List Value),K.In s.heap->(us++ds).length=ps.length->BindsTo s fd ⟨us,[]⟩ (ps.zip (us++ds))
theorem zAe.all {K:PySem.W.Frag} {fd:FuncData} {ps:List Str} (h:∀ us:List Value,us.length=ps.length->bindArgs fd ⟨us,[]⟩=pure (ps.zip us)):zAe K fd ps []:=fun s us _ hl=>by
 rw [List.append_nil] at hl ⊢
 exact .of_eq (h us hl)
def zCD (CX:CXT) (X:Cx) (E:XK):Prop:=∀ (pins:List (Addr×Obj)) (σ:St) (H:Hp) (s:Shared) (e:Value) (s':Shared),Inv X pins σ H s->CX X.stack H s E e s'->X.xe e s'
section
variable {X:Cx} {CX:CXT} {k:Nat} {f C:Addr} {fd:FuncData} {ps:List Str} {sp:Sp} {dvs:List V} {ds:List Value} {E:XK} {x m:Str} {p pos apos:Pos} {e o:Expr} {es:List Expr} {ta:TE} {t:TA}
theorem zLY {pins:List (Addr×Obj)} {σ:St} {H:Hp} {s:Shared} {Q:VK} {us:List Value} {vs:List V} (F:FnOk X.prog X.w X.K X.mg X.base CX k f fd ps sp) (hr:Room k X.A) (hb:zAe X.K fd ps ds) (hd:dG dvs ds) (hx:zCD CX X E)
  (I:Inv X pins σ H s) (r:dG vs us) (h:sp (vs++dvs) H Q E):wpAny (model X.prog X.w) X.A (call (.ref f) us) (EP X pins σ Q) X.xe s:=by
 have r2:dG (vs++dvs) (us++ds):=r.append hd
 have hl:(us++ds).length=ps.length:=by rw [<-r2.length];exact F.len _ _ _ _ h
 refine wpAny_call (codeAny_mono (F.run X.A X.stack s H ⟨us,[]⟩ (us++ds) (vs++dvs) Q E hr I.env0 (hb s us I.kIn hl) r2 h) fun r s' hq=>?_)
 cases r with
 | error e=>exact hx pins σ H s e s' I hq
 | ok fl=>
  cases fl with
  | ret u=>exact I.after hq
  | next=>exact False.elim hq
  | brk=>exact False.elim hq
  | cont=>exact False.elim hq
theorem zBC (F:FnOk X.prog X.w X.K X.mg X.base CX k f fd ps sp) (hr:Room k X.A) (hg:Gl X x) (hm:X.mg x=some (.ref f)) (hk:PySem.W.keepIn X.K (.ref f)=true) (hb:zAe X.K fd ps ds) (hd:dG dvs ds) (hx:zCD CX X E)
  (ha:PA X (e::es) t) (hdb:(x==("__debug__" : Str))=false:=by decide) (he:starEach (e::es) X.env=(false,eval e X.env)::starEach es X.env:=by rfl) (hpl:(backTo pos (starEach es X.env)).any (·.1)=false:=by rfl):
  PE X (.Call (.Name x p) (e::es) [] pos) (zJB sp dvs E t):=by
 intro pins s σ H Q I h
 refine wpAny_Call_Name_kw (qW I hg hm ?_ hdb)
 refine PySem.W.callWith_K (h₀:=X.base) I.ok.mod.kin hk (thn (ha pos pins s σ H _ I h) fun us s1 ⟨vs,H1,I1,r,q⟩=>⟨I1.kIn,?_⟩) he hpl
 exact zLY F hr hb hd hx I1 r q
end
section
variable {X:Cx} {CX:CXT} {k:Nat} {f C:Addr} {fd:FuncData} {ps ks:List Str} {sp:Sp} {E:XK} {x m:Str} {p pos apos kpos:Pos} {e o:Expr} {es:List Expr} {kws:List Keyword} {te ta:TE} {t tk:TA} {nm:Option Str}
variable {g:List Value->List Value->List Value} {gV:List V->List V->List V}
end
structure FnScope (N P:List Str) (sc:Scope):Prop where
 kind:sc.kind=.function
 co:sc.isCoroutine=false
 gen:sc.isGenerator=false
 nd:N.Nodup
 pre:N.take P.length=P
 par:∀ x∈P,sc.names.lookup x=some .local∨sc.names.lookup x=some .cell
 nofree:∀ y∈sc.names,y.2≠.free
theorem zAB {kindOf:Str->Option NameKind} {x:Str}:∀ {binds:List (Str×Value)} {m:Str->Option Value},(∀ v,(x,v)∉binds)->bindL kindOf binds m x=m x
 | [],_,_=>rfl
 | (n,v)::r,m,h=>by
  unfold bindL
  rw [zAB fun w hw=>h w (List.mem_cons_of_mem _ hw)]
  split
  ·have:x≠n:=by rintro rfl;exact h v List.mem_cons_self
   simp [this]
  ·rfl
theorem yW {kindOf:Str->Option NameKind} {x:Str}:∀ {binds:List (Str×Value)} {m:Str->Option Value},(∀ v,(x,v)∉binds)->bindC kindOf binds m x=m x
 | [],_,_=>rfl
 | (n,v)::r,m,h=>by
  unfold bindC
  rw [yW fun w hw=>h w (List.mem_cons_of_mem _ hw)]
  split
  ·rfl
  ·have:x≠n:=by rintro rfl;exact h v List.mem_cons_self
   simp [this]
theorem zAd {kindOf:Str->Option NameKind} {x:Str} {v:Value}:∀ {P:List Str} {vs:List Value} {i:Nat} {m:Str->Option Value},P.Nodup->P[i]?=some x->vs[i]?=some v->kindOf x=some .local->
  bindL kindOf (P.zip vs) m x=some v
 | [],_,_,_,_,h,_,_=>by simp at h
 | _::_,[],_,_,_,_,h,_=>by simp at h
 | p::P,w::vs,0,m,nd,h1,h2,hk=>by
  simp at h1 h2;subst h1;subst h2
  show bindL kindOf ((p,w)::P.zip vs) m p=_
  unfold bindL
  rw [zAB fun v hv=>(List.nodup_cons.mp nd).1 (List.of_mem_zip hv).1,if_pos hk]
  simp
 | p::P,w::vs,i+1,m,nd,h1,h2,hk=>by
  show bindL kindOf ((p,w)::P.zip vs) m x=_
  unfold bindL
  exact zAd (i:=i) (List.nodup_cons.mp nd).2 (by simpa using h1) (by simpa using h2) hk
theorem zAt {kindOf:Str->Option NameKind} {x:Str} {v:Value}:∀ {P:List Str} {vs:List Value} {i:Nat} {m:Str->Option Value},P.Nodup->P[i]?=some x->vs[i]?=some v->kindOf x≠some .local->
  bindC kindOf (P.zip vs) m x=some v
 | [],_,_,_,_,h,_,_=>by simp at h
 | _::_,[],_,_,_,_,h,_=>by simp at h
 | p::P,w::vs,0,m,nd,h1,h2,hk=>by
  simp at h1 h2;subst h1;subst h2
  show bindC kindOf ((p,w)::P.zip vs) m p=_
  unfold bindC
  rw [yW fun v hv=>(List.nodup_cons.mp nd).1 (List.of_mem_zip hv).1,if_neg hk]
  simp
 | p::P,w::vs,i+1,m,nd,h1,h2,hk=>by
  show bindC kindOf ((p,w)::P.zip vs) m x=_
  unfold bindC
  exact zAt (i:=i) (List.nodup_cons.mp nd).2 (by simpa using h1) (by simpa using h2) hk
def start (N:List Str) (vs:List V):St:=vs.map some++List.replicate (N.length - vs.length) none
def zDo (CX:CXT) (P:Program) (w:World) (K:PySem.W.Frag) (mg:Str->Option Value) (base:Heap) (N:List Str) (qual:Str) (scope:Scope) (f:Addr) (cd:Value) (A:Around) (outer:List Env) (s:Shared) (H:Hp) (E:XK):Cx where
 prog:=P
 w:=w
 K:=K
 mg:=mg
 base:=base
 A:=A.deeper (envOfC qual scope s.heap.objs.size f cd)
 N:=N
 s₀:=s
 H₀:=H
 env:=envOfC qual scope s.heap.objs.size f cd
 outer:=outer
 stack:=envOfC qual scope s.heap.objs.size f cd::outer
 ex:=[]
 calm:=true
 fn:=fun _=>true
 pn:=[]
 xe:=fun e s'=>wpAny (model P w) (A.deeper (envOfC qual scope s.heap.objs.size f cd)) (leaving (envOfC qual scope s.heap.objs.size f cd) e) (fun _ s''=>CX outer H s E e s'') (fun e' s''=>CX outer H s E e' s'') s'
theorem zCg {sc:Scope} {n:Nat} {x:Str} (h:sc.names.lookup x=some .cell):∃ c,(cellsFrom n sc.names []).lookup x=some c:=by
 have q:=PySem.W.cellsFrom_some sc.names n [] (.inl h)
 exact Option.isSome_iff_exists.mp q
theorem zEj {CX:CXT} {P:Program} {w:World} {K:PySem.W.Frag} {mg:Str->Option Value} {base:Heap} {N ps:List Str} {qual:Str} {scope:Scope} {f:Addr} {cd:Value} {A:Around} {outer:List Env} {s s1:Shared} {H:Hp} {E:XK} {us:List Value} {vs:List V}
  (S:FnScope N ps scope) (hd:A.handled=none) (e0:Env0 P w K mg base A outer s H) (hl:vs.length=ps.length) (r:dG vs us)
  (x:InCallC s s.heap.objs.size (bindL (envOfC qual scope s.heap.objs.size f cd).kindOf (ps.zip us) fun _=>none) (cellsFrom (s.heap.objs.size+1) scope.names []) (bindC (envOfC qual scope s.heap.objs.size f cd).kindOf (ps.zip us) fun _=>none) s1):
  Inv (zDo CX P w K mg base N qual scope f cd A outer s H E) [] (start N vs) H s1:=by
 have hpl:ps.length<=N.length:=by have:=congrArg List.length S.pre;rw [List.length_take] at this;omega
 obtain ⟨h1,tk,rfl,hk⟩:=x.done
 have noA:∀ b:Addr,b∉(zDo CX P w K mg base N qual scope f cd A outer s H E).ex:=fun b z=>absurd (show b∈([]:List Addr) from z) (by simp)
 refine ⟨⟨e0.mod,S.kind,rfl,rfl,Nat.le_refl _,fun y z c h1 h2=>?_,fun y hy=>?_,fun y c _ h=>?_,fun _=>hd,Around.frames_deeper e0.frames,.inr ⟨rfl,rfl⟩,fun b z=>absurd z (noA b),e0.bs,e0.bsz,fun b _ _=>noA b,fun b z=>absurd z (noA b),e0.funs,e0.frf⟩,
  rfl,e0.bare,Un.kept hk,⟨_,x.toInCall.ns,fun i y v h1 h2 h3=>?_⟩,fun y c h=>⟨_,x.cell y c h⟩,e0.hok.fresh (Nat.le_refl _),fun y c h=>?_,fun p hp=>absurd (show p∈([]:List (Addr×Obj)) from hp) (by simp),e0.hok.kept hk,?_⟩
 ·exact name_of_addr x.apart (PySem.mem_of_lookup h1) (PySem.mem_of_lookup h2)
 ·have hy:scope.names.lookup y=some .cell∨scope.names.lookup y=some .free:=hy
  rcases hy with hy | hy
  ·exact zCg hy
  ·exact absurd rfl (S.nofree _ (PySem.mem_of_lookup hy))
 ·exact Nat.le_of_lt (x.above y c (PySem.mem_of_lookup h))
 ·have hi:i < vs.length:=by
   unfold start at h2
   by_cases hi:i < vs.length
   ·exact hi
   ·rw [List.getElem?_append_right (by simpa using hi)] at h2
    rw [List.getElem?_replicate] at h2
    split at h2<;>cases h2
  have ha:vs[i]?=some v:=by
   unfold start at h2
   rw [List.getElem?_append_left (by simpa using hi),List.getElem?_map] at h2
   cases e:vs[i]? with
   | none=>rw [e] at h2;cases h2
   | some a=>rw [e] at h2;cases h2;rfl
  obtain ⟨u,hu,rv⟩:=r.get ha
  have hp:ps[i]?=some y:=by
   rw [<-S.pre,List.getElem?_take_of_lt (by omega)];exact h1
  have ndP:ps.Nodup:=by rw [<-S.pre];exact S.nd.sublist (List.take_sublist _ _)
  refine ⟨u,rv,?_⟩
  rcases S.par y (List.mem_of_getElem? hp) with k | k
  ·exact .inl ⟨k,zAd ndP hp hu k⟩
  ·obtain ⟨c,e⟩:=zCg (n:=s.heap.objs.size+1) k
   refine .inr ⟨.inl k,c,e,?_⟩
   have q:=x.cell y c e
   rw [zAt ndP hp hu (by show scope.names.lookup y≠_;rw [k];decide)] at q
   exact q
 ·exact e0.hok.fresh (Nat.le_of_lt (x.above y c (PySem.mem_of_lookup h)))
 ·unfold start
  show _=N.length
  rw [List.length_append,List.length_map,List.length_replicate]
  omega
theorem zKX {CX:CXT} {P:Program} {w:World} {K:PySem.W.Frag} {mg:Str->Option Value} {base:Heap} {k:Nat} {f:Addr} {name qual:Str} {params:Arguments} {body:List Stmt} {scope:Scope} {dV kV doc pm cdv ct oc:Value} {an od:Option Addr}
  {osl:Array (Option Value)} {N ps:List Str} {sp:Sp} (lk:K.lookup f=some ⟨oc,od,.func (PySem.W.fnOf name qual params body scope dV kV doc pm an cdv ct),osl⟩) (hcd:PySem.W.codeIn K cdv qual=true) (S:FnScope N ps scope)
  (len:∀ vs H Q E,sp vs H Q E->vs.length=ps.length)
  (hbody:∀ (A:Around) (outer:List Env) (s:Shared) (H:Hp) (vs:List V) (Q:VK) (E:XK),Room k (A.deeper (envOfC qual scope s.heap.objs.size f cdv))->sp vs H Q E->
   ∃ t,PSs (zDo CX P w K mg base N qual scope f cdv A outer s H E) body t/\t { nx:=fun _ H'=>Q .non H',rt:=Q } (start N vs) H):
  FnOk P w K mg base CX (k+1) f (PySem.W.fnOf name qual params body scope dV kV doc pm an cdv ct) ps sp:=by
 refine ⟨len,fun A outer s H args us vs Q E hr e0 hb r hsp=>?_⟩
 have hl:=len _ _ _ _ hsp
 have KX:K.In s.heap:=e0.mod.kin.keeps fun b o e=>(e0.bs b o e).1
 have lim:s.heap.NoLimit:=e0.mod.nolimit.keeps fun b o e=>(e0.bs b o e).1
 have hkind:∀ y∈ps.zip us,scope.names.lookup y.1=some .local∨(scope.names.lookup y.1=some .cell/\((cellsFrom (s.heap.objs.size+1) scope.names []).lookup y.1).isSome=true):=fun ⟨n,v⟩ hy=>by
  rcases S.par n (List.of_mem_zip hy).1 with q | q
  ·exact .inl q
  ·exact .inr ⟨q,PySem.W.cellsFrom_some _ _ _ (.inl q)⟩
 refine codeAny_call_function hr.depth (KX _ _ lk) rfl S.co S.gen rfl (PySem.W.codeRec_of KX hcd) (hb _ _ _ _ ?_)
 refine wpAny_newFunctionEnv_cells S.kind hkind fun env he s1 x=>?_
 subst he
 refine ⟨lim.keeps x.toInCall.keep,codeAny_func ?_⟩
 obtain ⟨t,ht,hq⟩:=hbody A outer s H vs Q E (hr.deeper _) hsp
 have I:Inv (zDo CX P w K mg base N qual scope f cdv A outer s H E) [] (start N vs) H s1:=zEj S hr.hd e0 hl r x
 refine wpAny_mono (ht [] s1 (start N vs) H _ I hq) (fun fl s' hs=>?_) fun e s' hs=>hs
 have fin:∀ {σ':St} {H':Hp} {v:V} {u:Value},Inv (zDo CX P w K mg base N qual scope f cdv A outer s H E) [] σ' H' s'->cY v u->Q v H'->CE outer P w H s Q u s':=
  fun {σ' H' v u} J rv q=>⟨v,H',J.os,J.bare,J.base,J.hok,rv,q⟩
 cases fl with
 | ret u=>
  obtain ⟨v,σ',H',J,rv,q⟩:=hs
  exact fin J rv q
 | next=>
  obtain ⟨σ',H',J,q⟩:=hs
  exact fin (v:=V.non) (u:=Value.none) J rfl q
 | brk=>
  obtain ⟨_,_,_,q⟩:=hs
  exact False.elim q
 | cont=>
  obtain ⟨_,_,_,q⟩:=hs
  exact False.elim q
end L2
namespace L2
open PySem PySem.Spec PyProof.Rows
section
variable {X:Cx} {x:Str} {p pos:Pos} {e:Expr} {es:List Expr} {t:TA} {id T:String} {r:List V->Hp->VK->Prop}
abbrev tCB (r:List V->Hp->VK->Prop) (t:TA):TE:=fun σ H Q=>t σ H fun vs H1=>r vs H1 Q
theorem vU (hc:uJ X (.builtin id) r) (hg:Gl X x) (hm:X.mg x=none) (hv:bootBuiltins x=some (.builtin id)) (ha:PA X (e::es) t) (hn:x ≠ "__name__" := by decide) (hdb:(x==("__debug__" : Str))=false:=by decide)
  (he:starEach (e::es) X.env=(false,eval e X.env)::starEach es X.env:=by rfl) (hpl:(backTo pos (starEach es X.env)).any (·.1)=false:=by rfl):PE X (.Call (.Name x p) (e::es) [] pos) (tCB r t):=by
 intro pins s σ H Q I h
 refine wpAny_Call_Name_kw (lQ I hg hm hv ?_ hn hdb)
 exact PyProof.Rows.callWith_builtin1 (thn (ha pos pins s σ H _ I h) fun us s1 ⟨vs,H1,I1,r1,q1⟩=>hc pins s1 σ H1 vs us Q I1 r1 q1) he hpl
theorem yB (hc:uJ X (.type T) r) (hg:Gl X x) (hm:X.mg x=none) (hv:bootBuiltins x=some (.type T)) (ha:PA X (e::es) t) (hn:x ≠ "__name__" := by decide) (hdb:(x==("__debug__" : Str))=false:=by decide)
  (he:starEach (e::es) X.env=(false,eval e X.env)::starEach es X.env:=by rfl) (hpl:(backTo pos (starEach es X.env)).any (·.1)=false:=by rfl):PE X (.Call (.Name x p) (e::es) [] pos) (tCB r t):=by
 intro pins s σ H Q I h
 refine wpAny_Call_Name_kw (lQ I hg hm hv ?_ hn hdb)
 exact PyProof.Rows.callWith_type1 (thn (ha pos pins s σ H _ I h) fun us s1 ⟨vs,H1,I1,r1,q1⟩=>hc pins s1 σ H1 vs us Q I1 r1 q1) he hpl
end
end L2
namespace HT
open PySem PyProof.Rows
section
open PySem.SeqAt
open PySem.AutoSeq1 (wpAny_loadPart')
open PySem.MeetsSeq PySem.MeetsSeq2 PySem.MeetsSeq3
end
section
variable {prog:Program} {w:World} {A:Around} {E:Value->Shared->Prop} {s:Shared}
theorem cat_tup {t b:Addr} {vs ws:List Value} {Q:Value->Shared->Prop} (ht:IsTup s.heap t vs.toArray) (hb:IsTup s.heap b ws.toArray) (hv:vs≠[])
  (h1:ws=[]->Q (.ref t) s) (h2:ws≠[]->Q (.ref s.heap.objs.size) { s with heap:=s.heap.push { cls:=.type "tuple", data:=.seq (vs++ws).toArray } })
  (hsz:vs.length+ws.length<=sizeLine):wpAny (model prog w) A (binaryOp .Add (.ref t) (.ref b)) Q E s:=by
 obtain ⟨⟨cls,dd,data,sl⟩,ho,hc,n,hd⟩:=id ht
 obtain ⟨⟨cls2,dd2,data2,sl2⟩,ho2,hc2,n2,hd2⟩:=id hb
 simp only at hc hd hc2 hd2
 subst hc hd hc2 hd2
 have e:vs.toArray++ws.toArray=(vs++ws).toArray:=by simp
 by_cases hw:ws=[]
 ·exact concat_meets ⟨_,ho,rfl⟩ ⟨_,ho2,rfl⟩ noFill_tuple_add seq_tuple_add PySem.F.slot_tuple_add PySem.F.entry_tuple_add (PySem.F.args_tuple_add_2 _ _)
   (tuple_addW1 t b vs.toArray ws.toArray n n2 dd dd2 sl sl2 (by simpa using hv) (by simp [hw])) ⟨ho,ho2,h1 hw⟩
 ·refine concat_meets ⟨_,ho,rfl⟩ ⟨_,ho2,rfl⟩ noFill_tuple_add seq_tuple_add PySem.F.slot_tuple_add PySem.F.entry_tuple_add (PySem.F.args_tuple_add_2 _ _)
   (tuple_addW2 t b vs.toArray ws.toArray n n2 dd dd2 sl sl2 (by simpa using hv) (by simpa using hw) (by rw [List.size_toArray,List.size_toArray];exact hsz)) ⟨ho,ho2,?_⟩
  rw [e]
  exact h2 hw
def sIx (n d:Nat):Option Int->Nat
 | none=>d
 | some v=>if v < 0 then (v+(n:Int)).toNat else min v.toNat n
end
end HT
namespace L2
open PySem PySem.Spec PyProof.Rows
abbrev TO:=St->Hp->(Option Int->Hp->Prop)->Prop
def PO (X:Cx) (e:Option Expr) (t:TO):Prop:=
 ∀ (pins:List (Addr×Obj)) (s:Shared) (σ:St) (H:Hp) (Q:Option Int->Hp->Prop),Inv X pins σ H s->t σ H Q->
  wpAny (model X.prog X.w) X.A (evalPart e X.env) (fun u s'=>∃ o H',Inv X pins σ H' s'/\IsPart u o/\Q o H') X.xe s
abbrev zIs:TO:=fun _ H Q=>Q none H
abbrev zMX (t:TE):TO:=fun σ H Q=>t σ H fun x H1=>∃ i,x=.int i/\Q (some i) H1
section
variable {X:Cx} {e:Expr} {te:TE} {lo hi:Option Expr} {tl th:TO} {pos p2:Pos}
theorem zJq:PO X none zIs:=by
 intro pins s σ H Q I h
 rw [evalPart_none]
 exact wpAny_pure ⟨none,H,I,.none,h⟩
theorem zIF (h:PE X e te):PO X (some e) (zMX te):=by
 intro pins s σ H Q I hw
 rw [evalPart_some]
 refine thn (h pins s σ H _ I hw) fun u s1 ⟨x,H1,I1,r1,q1⟩=>?_
 obtain ⟨i,rfl,q⟩:=q1
 obtain ⟨t,rfl⟩:=r1
 exact ⟨some i,H1,I1,.int i t,q⟩
def SlR (X:Cx) (r:V->Option Int->Option Int->Hp->VK->Prop):Prop:=
 ∀ (pins:List (Addr×Obj)) (s:Shared) (σ:St) (H:Hp) (x:V) (v vl vu:Value) (lo hi:Option Int) (sl:Addr) (Q:VK),Inv X pins σ H s->cY x v->s.heap.IsSliceOf sl vl vu .none->IsPart vl lo->IsPart vu hi->r x lo hi H Q->
  ∃ T id,typeLookup (.type T) "__getitem__" = pure (some (.builtin id))/\s.TypeIs v T/\wpAny (model X.prog X.w) X.A (getItem v (.ref sl)) (EP X pins σ Q) X.xe s
abbrev tSl (r:V->Option Int->Option Int->Hp->VK->Prop) (te:TE) (tl th:TO):TE:=fun σ H Q=>te σ H fun x H1=>tl σ H1 fun l H2=>th σ H2 fun u H3=>r x l u H3 Q
theorem zGi {r:V->Option Int->Option Int->Hp->VK->Prop} (hr:SlR X r) (he:PE X e te) (hl:PO X lo tl) (hu:PO X hi th):PE X (.Subscript e (.Slice lo hi none p2) pos) (tSl r te tl th):=by
 intro pins s σ H Q I h
 refine Subscript_ (thn (he pins s σ H _ I h) fun v s1 ⟨x,H1,I1,r1,q1⟩=>?_)
 refine wpAny_Slice (thn (hl pins s1 σ H1 _ I1 q1) fun vl s2 ⟨l,H2,I2,pl,q2⟩=>thn (hu pins s2 σ H2 _ I2 q2) fun vu s3 ⟨u,H3,I3,pu,q3⟩=>?_)
 rw [evalPart_none]
 refine wpAny_pure ?_
 have I4:Inv X pins σ H3 { s3 with heap:=s3.heap.push { cls:=.type "slice", data:=.fields #[vl,vu,.none] } }:=I3.kept (t':=s3.toks) fun b ob q=>Heap.get?_push_of_some _ q
 obtain ⟨T,id,hT,ht,hg⟩:=hr pins { s3 with heap:=s3.heap.push { cls:=.type "slice", data:=.fields #[vl,vu,.none] } } σ H3 x v vl vu l u s3.heap.objs.size Q I4 r1 (Heap.IsSliceOf.new ..) pl pu q3
 show wpAny (model X.prog X.w) X.A (subscriptTail e (.Slice lo hi none p2) v (.ref s3.heap.objs.size)) (EP X pins σ Q) X.xe { s3 with heap:=s3.heap.push { cls:=.type "slice", data:=.fields #[vl,vu,.none] } }
 exact tail_any (ops:=[.ref s3.heap.objs.size,v]) ht hT hg (by with_unfolding_all rfl)
def zJY (xs:List V) (lo hi:Option Int):List V:=(xs.drop (HT.sIx xs.length 0 lo)).take (HT.sIx xs.length xs.length hi - HT.sIx xs.length 0 lo)
theorem zBz (xs:List V) (lo hi:Option Int):(zJY xs lo hi).length<=xs.length:=by
 unfold zJY
 rw [List.length_take,List.length_drop]
 omega
def zLs (K:PySem.W.Frag):R2:=fun x y H Q=>∃ a b xs ys,x=.ref a/\y=.ref b/\SqT K H a xs/\SqT K H b ys/\xs≠[]/\xs.length+ys.length<=sizeLine/\
 (ys=[]->Q (.ref a) H)/\(ys≠[]->∀ p,H p=none->Q (.ref p) (upd H p (.tup (xs++ys))))
theorem dG.nil_iff {xs:List V} {us:List Value} (r:dG xs us):us=[] ↔ xs=[]:=by
 cases r with
 | nil=>simp
 | cons _ _=>simp
theorem zIZ:OpR X (binaryOp .Add) (zLs X.K):=by
 intro pins s σ H x y v u Q I rx ry h
 obtain ⟨a,b,xs,ys,rfl,rfl,ha,hb,hx,hz,q1,q2⟩:=h
 cases rx
 cases ry
 obtain ⟨its,r1,p1,_⟩:=I.tuple ha
 obtain ⟨its2,r2,p2,_⟩:=I.tuple hb
 refine HT.cat_tup p1 p2 (fun z=>hx (r1.nil_iff.mp z)) (fun z=>⟨.ref a,H,I,rfl,q1 (r2.nil_iff.mp z)⟩) (fun z=>?_) (by rw [<-r1.length,<-r2.length];exact hz)
 refine ⟨.ref s.heap.objs.size,_,I.laid (t':=s.toks) (o:=.tup (xs++ys)) (fun b ob q=>Heap.get?_push_of_some _ q) (Nat.le_refl _) ?_,rfl,q2 (fun w=>z (r2.nil_iff.mpr w)) _ (I.hok.fresh (Nat.le_refl _))⟩
 exact ⟨by rw [List.length_append];exact hz,_,r1.append r2,IsTup.new _ _⟩
end
end L2
namespace L2
open PySem PySem.Spec PyProof.Rows
def ixN (n:Nat) (i:Int):Option Nat:=if 0<=i then (if i < n then some i.toNat else none) else if -(n:Int)<=i then some (i+n).toNat else none
def atI {α:Type} (xs:List α) (i:Int):Option α:=(ixN xs.length i).bind fun j=>xs[j]?
theorem zEb {n:Nat} {i:Int} {j:Nat} (h:ixN n i=some j):seqIndex? i n=some j/\j < n/\-(n:Int)<=i/\i < n:=by
 unfold ixN at h
 by_cases h0:0<=i
 ·rw [if_pos h0] at h
  by_cases h1:i < n
  ·rw [if_pos h1] at h
   have e:i.toNat=j:=Option.some.inj h
   exact ⟨by rw [seqIndex_of h0 h1,e],by omega,by omega,h1⟩
  ·rw [if_neg h1] at h;cases h
 ·rw [if_neg h0] at h
  by_cases h1:-(n:Int)<=i
  ·rw [if_pos h1] at h
   have e:(i+n).toNat=j:=Option.some.inj h
   exact ⟨by rw [seqIndex_neg (by omega) h1,e],by omega,h1,by omega⟩
  ·rw [if_neg h1] at h;cases h
theorem zDR {α:Type} {xs:List α} {i:Int} {v:α} (h:atI xs i=some v):∃ j,seqIndex? i xs.length=some j/\xs[j]?=some v/\j < xs.length/\-(xs.length:Int)<=i/\i < xs.length:=by
 unfold atI at h
 cases e:ixN xs.length i with
 | none=>rw [e] at h;cases h
 | some j=>
  rw [e] at h
  obtain ⟨h1,h2,h3,h4⟩:=zEb e
  exact ⟨j,h1,h,h2,h3,h4⟩
theorem zBw {α:Type} {xs:List α} {j:Nat} {v:α} (h:xs[j]?=some v):atI xs (j:Int)=some v:=by
 have hj:j < xs.length:=(List.getElem?_eq_some_iff.mp h).1
 have e:ixN xs.length (j:Int)=some j:=by
  unfold ixN
  rw [if_pos (by omega),if_pos (by omega)];simp
 unfold atI;rw [e];exact h
def zBB (b:Expr):Prop:=∀ o i,subscripted b false o i=operate [o,i] (getItem o i)
def IxR (X:Cx) (r:R2):Prop:=
 ∀ (value slice:Expr) (pins:List (Addr×Obj)) (s:Shared) (σ:St) (H:Hp) (x y:V) (v u:Value) (Q:VK),Inv X pins σ H s->cY x v->cY y u->r x y H Q->
  subscripted slice false v u=operate [v,u] (getItem v u)->wpAny (model X.prog X.w) X.A (subscriptTail value slice v u) (EP X pins σ Q) X.xe s
def MtR (X:Cx) (id:String) (r:V->List V->Hp->VK->Prop):Prop:=
 ∀ (pins:List (Addr×Obj)) (s:Shared) (σ:St) (H:Hp) (x:V) (xs:List V) (v:Value) (us:List Value) (Q:VK),Inv X pins σ H s->cY x v->dG xs us->r x xs H Q->
  wpAny (model X.prog X.w) X.A (call (.builtin id) (v::us)) (EP X pins σ Q) X.xe s
section
variable {X:Cx} {a b:Expr} {ta tb:TE} {pos:Pos}
theorem IxR.or {r r':R2} (h:IxR X r) (h':IxR X r'):IxR X (fun x y H Q=>r x y H Q∨r' x y H Q):=by
 intro value slice pins s σ H x y v u Q I rx ry q hs
 rcases q with q | q
 ·exact h value slice pins s σ H x y v u Q I rx ry q hs
 ·exact h' value slice pins s σ H x y v u Q I rx ry q hs
theorem zDb {r:R2} (hr:IxR X r) (ha:PE X a ta) (hb:PE X b tb) (hs:zBB b):PE X (.Subscript a b pos) (tOp r ta tb):=by
 intro pins s σ H Q I h
 exact Subscript_ (zMt ha hb I h fun v u s2 x y H2 I2 rx ry q=>hr a b pins s2 σ H2 x y v u Q I2 rx ry q (hs _ _))
def zMi (K:PySem.W.Frag):R2:=fun x y H Q=>∃ p xs i v,x=.ref p/\y=.int i/\SqL K H p xs/\atI xs i=some v/\Q v H
def zMg (K:PySem.W.Frag):R2:=fun x y H Q=>∃ p xs i v,x=.ref p/\y=.int i/\SqT K H p xs/\atI xs i=some v/\Q v H
theorem zJQ:IxR X (zMi X.K):=by
 intro value slice pins s σ H x y v u Q I rx ry h hs
 obtain ⟨p,xs,i,z,rfl,rfl,hq,he,q⟩:=h
 cases rx
 obtain ⟨t,rfl⟩:=ry
 obtain ⟨its,r,pl,hz⟩:=I.list hq
 obtain ⟨j,h1,h2,h3,h4,h5⟩:=zDR he
 obtain ⟨w,ew,rw'⟩:=r.get h2
 have hl:=r.length
 have hn:=zBH
 have fin:EP X pins σ Q w s:=⟨z,H,I,rw',q⟩
 by_cases h0:0<=i
 ·have hj:i.toNat=j:=by
   rw [seqIndex_of h0 h5] at h1
   exact Option.some.inj h1
  exact item_listR pl.isList h0 (by omega) (by rw [hj];simpa using ew) fin hs
 ·have hj:(i+(its.toArray.size:Int)).toNat=j:=by
   rw [seqIndex_neg (by omega) h4] at h1
   rw [List.size_toArray,<-hl]
   exact Option.some.inj h1
  exact subscriptTail_builtinR (x:=w) pl.isList.typeIs slot_list_getitem.lookup
   (wpAny_getItem_list_neg (Q:=fun r s'=>r=w/\EP X pins σ Q r s') pl.isList (by omega) (by rw [List.size_toArray]<;>omega) (by omega) (by rw [hj];simpa using ew) ⟨rfl,fin⟩) hs
theorem zKU:IxR X (zMg X.K):=by
 intro value slice pins s σ H x y v u Q I rx ry h hs
 obtain ⟨p,xs,i,z,rfl,rfl,hq,he,q⟩:=h
 cases rx
 obtain ⟨t,rfl⟩:=ry
 obtain ⟨its,r,pl,hz⟩:=I.tuple hq
 obtain ⟨j,h1,h2,h3,h4,h5⟩:=zDR he
 obtain ⟨w,ew,rw'⟩:=r.get h2
 have hl:=r.length
 have hn:=zBH
 have fin:EP X pins σ Q w s:=⟨z,H,I,rw',q⟩
 exact subscriptTail_builtinR (x:=w) pl.typeIs slot_tuple_getitem.lookup
  (getItem_tuple (j:=j) (Q:=fun r s'=>r=w/\EP X pins σ Q r s') pl (by omega) (by omega) (by rw [List.size_toArray,<-hl];exact h1) (by simpa using ew) ⟨rfl,fin⟩) hs
theorem zDm (its:List Value) (n j:Nat) (u:Value):Obj.mapSeq (·.setIfInBounds j u) { cls:=.type "list", data:=.seq its.toArray n }={ cls:=.type "list", data:=.seq (its.set j u).toArray n }:=by
 simp [Obj.mapSeq]
theorem Inv.lst {pins:List (Addr×Obj)} {σ:St} {H:Hp} {s:Shared} {p:Addr} {xs:List V} (I:Inv X pins σ H s) (h:H p=some (.lst xs)):
  ∃ (its:List Value) (n:Nat),dG xs its/\s.heap.get? p=some { cls:=.type "list", data:=.seq its.toArray n }/\xs.length<=sizeLine:=by
 obtain ⟨z,its,n,r,e⟩:=I.hok p _ h
 exact ⟨its,n,r,e,z⟩
theorem Inv.lstUpd {pins:List (Addr×Obj)} {σ:St} {H:Hp} {s:Shared} {p:Addr} {xs ys:List V} {its its':List Value} {n n':Nat} {f:Obj->Obj} (I:Inv X pins σ H s) (h:H p=some (.lst xs))
  (ho:s.heap.get? p=some { cls:=.type "list", data:=.seq its.toArray n }) (hf:f { cls:=.type "list", data:=.seq its.toArray n }={ cls:=.type "list", data:=.seq its'.toArray n' }) (r:dG ys its') (hz:ys.length<=sizeLine) (t:Nat):
  Inv X pins σ (upd H p (.lst ys)) { s with heap:=s.heap.update p f,toks:=t }:=by
 have e:(s.heap.update p f).get? p=some { cls:=.type "list", data:=.seq its'.toArray n' }:=by
  rw [Heap.get?_update_self f ho (by rw [hf]<;>rfl),hf]
 refine I.write (x:=p) (e:=p) (by rw [h];trivial) (.inl rfl) (fun b u hb q=>(Heap.get?_update_other _ _ (Ne.symm hb)).trans q) ⟨_,e⟩ ?_
 exact ⟨hz,its',n',r,e⟩
def zMM:V->V->V->Hp->(Hp->Prop)->Prop:=fun o i v H Q=>∃ p xs k j,o=.ref p/\i=.int k/\H p=some (.lst xs)/\ixN xs.length k=some j/\Q (upd H p (.lst (xs.set j v)))
theorem zGT:zNU X zMM:=by
 intro pins s σ H o i v ov iv u Q I ro ri rv h
 obtain ⟨p,xs,k,j,rfl,rfl,hp,hj,q⟩:=h
 cases ro
 obtain ⟨t,rfl⟩:=ri
 obtain ⟨its,n,r,ho,hz⟩:=I.lst hp
 obtain ⟨h1,h2,h3,h4⟩:=zEb hj
 have hl:=r.length
 have hn:=zBH
 have I':Inv X pins σ (upd H p (.lst (xs.set j v))) { s with heap:=s.heap.update p (Obj.mapSeq (·.setIfInBounds j u)) }:=
  I.lstUpd hp ho (zDm its n j u) (r.set rv j) (by rw [List.length_set];exact hz) s.toks
 by_cases h0:0<=k
 ·have hk:k.toNat=j:=by
   rw [seqIndex_of h0 h4] at h1
   exact Option.some.inj h1
  exact PySem.W.ki_setAt ho h0 (by omega) (by rw [List.size_toArray,<-hl];exact h4) (by rw [hk];exact ⟨_,I',q⟩)
 ·have hk:(k+(its.toArray.size:Int)).toNat=j:=by
   rw [seqIndex_neg (by omega) h3] at h1
   rw [List.size_toArray,<-hl]
   exact Option.some.inj h1
  exact PySem.W.ki_setBack ho (by omega) (by rw [List.size_toArray,<-hl];exact h3) (by omega) (by rw [hk];exact ⟨_,I',q⟩)
theorem zAA (lo hi:Option Int) (n:Nat):(sliceBounds lo hi none n).1=((HT.sIx n 0 lo:Nat):Int)/\(sliceBounds lo hi none n).2.1=((HT.sIx n n hi:Nat):Int)/\(sliceBounds lo hi none n).2.2=1:=by
 refine ⟨?_,?_,rfl⟩
 ·cases lo with
  | none=>simp [sliceBounds,HT.sIx]
  | some i=>
   simp only [sliceBounds,HT.sIx,Option.getD_none,show (1:Int) > 0 by decide,if_true]
   by_cases h:i < 0
   ·simp only [h,if_true]<;>omega
   ·simp only [h,if_false]<;>omega
 ·cases hi with
  | none=>simp [sliceBounds,HT.sIx]
  | some i=>
   simp only [sliceBounds,HT.sIx,Option.getD_none,show (1:Int) > 0 by decide,if_true]
   by_cases h:i < 0
   ·simp only [h,if_true]<;>omega
   ·simp only [h,if_false]<;>omega
theorem xH (its:List Value) (lo hi:Option Int):slicePick its.toArray lo hi none=((its.drop (HT.sIx its.length 0 lo)).take (HT.sIx its.length its.length hi - HT.sIx its.length 0 lo)).toArray:=by
 obtain ⟨h1,h2,h3⟩:=zAA lo hi its.toArray.size
 unfold slicePick
 rw [h1,h2,h3]
 simp only [sliceRange_one,pick_run,List.size_toArray]<;>rfl
def zOq (K:PySem.W.Frag):V->Option Int->Option Int->Hp->VK->Prop:=fun x lo hi H Q=>∃ a xs,x=.ref a/\SqL K H a xs/\∀ p,H p=none->Q (.ref p) (upd H p (.lst (zJY xs lo hi)))
theorem zJP:SlR X (zOq X.K):=by
 intro pins s σ H x v vl vu lo hi sl Q I rx hs pl pu h
 obtain ⟨a,xs,rfl,hx,q⟩:=h
 cases rx
 obtain ⟨its,r,ht,hz⟩:=I.list hx
 have hlen:=r.length
 refine ⟨"list", _,slot_list_getitem.lookup,ht.isList.typeIs,?_⟩
 refine wpAny_getItem_list_slice ht.isList hs pl pu .none (by simp) ?_ (by rw [List.size_toArray]<;>omega)
 rw [xH,<-hlen]
 refine ⟨.ref s.heap.objs.size,_,I.laid (t':=s.toks) (o:=.lst (zJY xs lo hi)) (fun b ob q=>Heap.get?_push_of_some _ q) (Nat.le_refl _) ?_,rfl,q _ (I.hok.fresh (Nat.le_refl _))⟩
 exact ⟨Nat.le_trans (zBz xs lo hi) hz,_,0,(r.drop (HT.sIx xs.length 0 lo)).take (HT.sIx xs.length xs.length hi - HT.sIx xs.length 0 lo),Heap.get?_push_size _ rfl⟩
theorem aY:uJ X (.builtin "len") (fun xs H Q=>∃ p ys,xs=[.ref p]/\(SqL X.K H p ys∨SqT X.K H p ys)/\Q (.int ys.length) H):=by
 intro pins s σ H xs us Q I r h
 obtain ⟨p,ys,rfl,hq,q⟩:=h
 obtain ⟨u,rfl,rx⟩:=zCP r
 cases rx
 have hn:=zBH
 rcases hq with hq | hq
 ·obtain ⟨its,r',pl,hz⟩:=I.list hq
  have hlen:=r'.length
  exact Calls.call_len_list pl.isList (by simp only [List.size_toArray]<;>omega) ⟨.int ys.length,H,I.tok _,⟨s.toks+1,by rw [List.size_toArray,hlen]⟩,q⟩
 ·obtain ⟨its,r',pl,hz⟩:=I.tuple hq
  have hlen:=r'.length
  exact len_tuple pl (by simp only [List.size_toArray]<;>omega) ⟨.int ys.length,H,I.tok _,⟨s.toks+1,by rw [List.size_toArray,hlen]⟩,q⟩
theorem yP:uJ X (.type "list") (fun xs H Q=>∃ p ys,xs=[.ref p]/\(SqL X.K H p ys∨SqT X.K H p ys)/\∀ l,H l=none->Q (.ref l) (upd H l (.lst ys))):=by
 intro pins s σ H xs us Q I r h
 obtain ⟨p,ys,rfl,hq,q⟩:=h
 obtain ⟨u,rfl,rx⟩:=zCP r
 cases rx
 have fin:∀ (its:List Value),dG ys its->ys.length<=sizeLine->∀ (h':Heap) (c':Nat),(∀ b o',s.heap.get? b=some o'->h'.get? b=some o')->
   h'.get? s.heap.objs.size=some { cls:=.type "list", dict:=none,data:=.seq its.toArray c',slots:=#[] }->EP X pins σ Q (.ref s.heap.objs.size) { s with heap:=h' }:=fun its r' hz h' c' kp e=>
  ⟨.ref s.heap.objs.size,_,I.laid (t':=s.toks) kp (Nat.le_refl _) (show jZ X.prog X.w _ h' _ (.lst ys) from ⟨hz,its,c',r',e⟩),rfl,q _ (I.hok.fresh (Nat.le_refl _))⟩
 rcases hq with hq | hq
 ·obtain ⟨its,r',pl,hz⟩:=I.list hq
  have hlen:=r'.length
  obtain ⟨o,ho,hc,n,hd⟩:=pl.isList
  exact call_list_seq p (.inl rfl) ho hc hd (fun h' c' kp e=>fin its r' hz h' c' kp e) (by simp only [List.size_toArray]<;>omega)
 ·obtain ⟨its,r',pl,hz⟩:=I.tuple hq
  have hlen:=r'.length
  obtain ⟨o,ho,hc,n,hd⟩:=pl
  exact call_list_seq p (.inr rfl) ho hc hd (fun h' c' kp e=>fin its r' hz h' c' kp e) (by simp only [List.size_toArray]<;>omega)
theorem oI:uJ X (.type "tuple") (fun xs H Q=>∃ p ys,xs=[.ref p]/\((SqL X.K H p ys/\∀ l,H l=none->Q (.ref l) (upd H l (.tup ys)))∨(SqT X.K H p ys/\Q (.ref p) H))):=by
 intro pins s σ H xs us Q I r h
 obtain ⟨p,ys,rfl,h⟩:=h
 obtain ⟨u,rfl,rx⟩:=zCP r
 cases rx
 rcases h with ⟨hq,q⟩ | ⟨hq,q⟩
 ·obtain ⟨its,r',pl,hz⟩:=I.list hq
  have hlen:=r'.length
  refine call_tuple_list pl.isList (fun h' kp=>?_) (by simp only [List.size_toArray]<;>omega)
  have I1:Inv X pins σ H { s with heap:=h' }:=I.kept (t':=s.toks) kp
  have I2:Inv X pins σ (upd H h'.objs.size (.tup ys)) { s with heap:=h'.push { cls:=.type "tuple", data:=.seq its.toArray } }:=
   I1.laid (t':=s.toks) (fun b o e=>Heap.get?_push_of_some _ e) (Nat.le_refl _) (show jZ X.prog X.w _ _ _ (.tup ys) from ⟨hz,its,r',IsTup.new _ _⟩)
  exact ⟨.ref h'.objs.size,_,I2,rfl,q _ (I1.hok.fresh (Nat.le_refl _))⟩
 ·obtain ⟨its,r',pl,hz⟩:=I.tuple hq
  exact call_tuple_same pl ⟨.ref p,H,I,rfl,q⟩
def tyV (K:PySem.W.Frag) (T:String) (x:V) (H:Hp):Prop:=match x with
 | .str _=>T = "str"
 | .int _=>T = "int"
 | .ref p=>(T = "list" /\ ∃ xs,SqL K H p xs)∨(T = "tuple" /\ ∃ o,K.lookup p=some o/\o.cls=.type "tuple" /\ o.dict=none)∨
   (T = "dict" /\ ((∃ kvs,H p=some (.dK kvs))∨∃ kvs,H p=some (.dT kvs)))∨(T = "set" /\ ∃ S n,H p=some (.set S n))
 | _=>False
theorem zHB {pins:List (Addr×Obj)} {σ:St} {H:Hp} {s:Shared} {T:String} {x:V} {v:Value} (I:Inv X pins σ H s) (r:cY x v) (ty:tyV X.K T x H):
  s.TypeIs v T/\∀ a,v=.ref a->∃ ob,s.heap.get? a=some ob/\ob.dict=none:=by
 cases x with
 | str z=>
  obtain ⟨t,rfl⟩:=r
  cases (show T = "str" from ty)
  exact ⟨typeIs_str s z t,fun _ e=>nomatch e⟩
 | int i=>
  obtain ⟨t,rfl⟩:=r
  cases (show T = "int" from ty)
  exact ⟨typeIs_int s i t,fun _ e=>nomatch e⟩
 | ref p=>
  cases r
  rcases ty with ⟨rfl,xs,hq⟩ | ⟨rfl,o,hk,hc,hd⟩ | ⟨rfl,hk⟩ | ⟨rfl,S,n,hk⟩
  ·obtain ⟨its,_,pl,_⟩:=I.list hq
   refine ⟨pl.isList.typeIs,fun a e=>?_⟩
   cases e
   obtain ⟨o,n,e,c,hd,_⟩:=pl
   exact ⟨o,e,hd⟩
  ·refine ⟨⟨o,I.kIn p o hk,hc⟩,fun a e=>?_⟩
   cases e
   exact ⟨o,I.kIn _ o hk,hd⟩
  ·have z:∃ o,s.heap.get? p=some o/\o.ExactDict:=by
    rcases hk with ⟨kvs,hk⟩ | ⟨kvs,hk⟩
    ·obtain ⟨_,_,_,_,o,_,_,e,ex,_⟩:=I.hok p _ hk
     exact ⟨o,e,ex⟩
    ·obtain ⟨_,_,_,_,o,_,_,e,ex,_⟩:=I.hok p _ hk
     exact ⟨o,e,ex⟩
   obtain ⟨o,e,ex⟩:=z
   refine ⟨⟨o,e,ex.1⟩,fun a e2=>?_⟩
   cases e2
   exact ⟨o,e,ex.2.1⟩
  ·obtain ⟨o,_,_,_,e,ex,_⟩:=I.hok p _ hk
   refine ⟨⟨o,e,ex.1⟩,fun a e2=>?_⟩
   cases e2
   exact ⟨o,e,ex.2.1⟩
 | _=>exact False.elim ty
abbrev zOg (K:PySem.W.Frag) (T:String) (r:V->List V->Hp->VK->Prop) (to:TE):TE:=fun σ H Q=>to σ H fun x H1=>tyV K T x H1/\r x [] H1 Q
abbrev tBM (K:PySem.W.Frag) (T:String) (r:V->List V->Hp->VK->Prop) (to:TE) (t:TA):TE:=fun σ H Q=>to σ H fun x H1=>tyV K T x H1/\t σ H1 fun xs H2=>r x xs H2 Q
variable {o e:Expr} {es:List Expr} {to:TE} {t:TA} {name:Str} {apos cpos:Pos} {T id:String} {r:V->List V->Hp->VK->Prop}
theorem zLX (pa:PlainAttrs T) (slot:Slot T name id) (hty:typeOf (.builtin id)=pure (.type "method_descriptor")) (hm:MtR X id r) (ho:PE X o to)
  (hbase:attributeBase o name X.env (eval o X.env)=eval o X.env:=by rfl) (hline:(apos.endLine==cpos.line)=true:=by rfl):PE X (.Call (.Attribute o name apos) [] [] cpos) (zOg X.K T r to):=by
 intro pins s σ H Q I h
 refine wpAny_Call_method0_late hbase hline (thn (ho pins s σ H _ I h) fun v s1 ⟨x,H1,I1,r1,ty,q1⟩=>?_)
 obtain ⟨h1,h2⟩:=zHB I1 r1 ty
 exact ⟨T,id,pa,slot,hty,h1,h2,Calls.callWith_builtin rfl (PySem.evalArgs_none (hm pins s1 σ H1 x [] v [] Q I1 r1 .nil q1))⟩
theorem zMw (pa:PlainAttrs T) (slot:Slot T name id) (hty:typeOf (.builtin id)=pure (.type "method_descriptor")) (hm:MtR X id r) (ho:PE X o to) (ha:PA X (e::es) t)
  (hbase:attributeBase o name X.env (eval o X.env)=eval o X.env:=by rfl)
  (hfew:((backTo cpos (starEach (e::es) X.env)).all (fun x=>!x.1) && (backToKw cpos (keywordEach [] X.env)).all (fun x=>x.1.isSome)
   && decide ((e::es).length+([]:List Keyword).length+(if ([]:List Keyword).isEmpty then 0 else 1) < 30))=true:=by rfl)
  (hline:(apos.endLine==cpos.line)=true:=by rfl) (hs:starEach (e::es) X.env=(false,eval e X.env)::starEach es X.env:=by rfl) (hplain:(backTo cpos (starEach es X.env)).any (·.1)=false:=by rfl):
  PE X (.Call (.Attribute o name apos) (e::es) [] cpos) (tBM X.K T r to t):=by
 intro pins s σ H Q I h
 refine wpAny_Call_method_late hbase hfew hline rfl (thn (ho pins s σ H _ I h) fun v s1 ⟨x,H1,I1,r1,ty,q1⟩=>?_)
 obtain ⟨h1,h2⟩:=zHB I1 r1 ty
 refine ⟨T,id,pa,slot,hty,h1,h2,?_⟩
 have hA:=ha cpos pins s1 σ H1 _ I1 q1
 rw [hs] at hA ⊢
 refine Calls.callWith_builtin (by show (false || (backTo cpos (starEach es X.env)).any (·.1))=false;rw [hplain]<;>rfl) (Calls.evalArgs_plain ?_)
 exact thn hA fun us s2 ⟨vs,H2,I2,r2,q2⟩=>hm pins s2 σ H2 x vs v us Q I2 r1 r2 q2
end
end L2
namespace L2
open PySem PySem.Spec PyProof.Rows
def MtM (X:Cx) (id:String) (r:V->List V->Hp->VK->Prop):Prop:=
 ∀ (pins:List (Addr×Obj)) (s:Shared) (σ:St) (H:Hp) (x:V) (xs:List V) (v:Value) (us:List Value) (Q:VK),Inv X pins σ H s->cY x v->dG xs us->r x xs H Q->
  wpAny (model X.prog X.w) X.A (call (.builtin id) (v::us)) (EP X pins σ Q) X.xe s
theorem dG.one:∀ {x:V} {us:List Value},dG [x] us->∃ u,us=[u]/\cY x u
 | _,_,.cons r .nil=>⟨_,rfl,r⟩
theorem dG.zero:∀ {us:List Value},dG [] us->us=[]
 | _,.nil=>rfl
theorem dG.dropLast {xs:List V} {us:List Value} (h:dG xs us):dG xs.dropLast us.dropLast:=by
 induction h with
 | nil=>exact .nil
 | cons r t ih=>
  cases t with
  | nil=>exact .nil
  | cons q t'=>exact .cons r ih
theorem dG.rep {xs:List V} {us:List Value} (h:dG xs us):∀ k:Nat,dG (List.replicate k xs).flatten (List.replicate k us).flatten
 | 0=>.nil
 | k+1=>by
  rw [List.replicate_succ,List.replicate_succ,List.flatten_cons,List.flatten_cons]
  exact dG.append h (dG.rep h k)
theorem zCX {α:Type} (l:List α):l.eraseIdx (l.length - 1)=l.dropLast:=by
 induction l with
 | nil=>rfl
 | cons a r ih=>
  cases r with
  | nil=>rfl
  | cons b r=>
   have e:(a::b::r).length - 1=((b::r).length - 1)+1:=by
    have h1:(a::b::r).length=r.length+2:=rfl
    have h2:(b::r).length=r.length+1:=rfl
    omega
   rw [e,List.eraseIdx_cons_succ,ih]
   all_goals rfl
theorem yM (its:List Value):∀ (k:Nat) (acc:List Value),
  List.foldl (fun x1 x2=>x1++x2) acc.toArray (List.replicate k its.toArray)=(acc++(List.replicate k its).flatten).toArray
 | 0,acc=>by simp
 | k+1,acc=>by
  have e:acc.toArray++its.toArray=(acc++its).toArray:=by simp
  have e2:(acc++its)++(List.replicate k its).flatten=acc++(List.replicate (k+1) its).flatten:=by
   rw [List.replicate_succ,List.flatten_cons,List.append_assoc]
  rw [<-e2,<-yM its k (acc++its),<-e,List.replicate_succ,List.foldl_cons]
section
variable {X:Cx} {pins:List (Addr×Obj)} {σ:St} {H:Hp} {s:Shared} {l b:Addr} {xs ys zs:List V}
theorem Inv.lset {its its':List Value} {n:Nat} {f:Array Value->Array Value} {t':Nat} (I:Inv X pins σ H s) (hH:H l=some (.lst xs))
  (e:s.heap.get? l=some { cls:=.type "list", data:=.seq its.toArray n }) (hf:f its.toArray=its'.toArray) (hv:dG ys its') (hz:ys.length<=sizeLine):
  Inv X pins σ (upd H l (.lst ys)) { s with heap:=s.heap.update l (Obj.mapSeq f),toks:=t' }:=by
 have q:=PySem.IsL.update e f
 rw [hf] at q
 refine I.write (x:=l) (e:=l) (by rw [hH];exact trivial) (.inl rfl) (fun b' u hb hu=>(Heap.get?_update_other s.heap (Obj.mapSeq f) (Ne.symm hb)).trans hu) ⟨_,q⟩ ?_
 exact ⟨hz,its',_,hv,q⟩
theorem Inv.lnew {its:List Value} {t':Nat} (I:Inv X pins σ H s) (hv:dG ys its) (hz:ys.length<=sizeLine):
  Inv X pins σ (upd H s.heap.objs.size (.lst ys)) { s with heap:=s.heap.push { cls:=.type "list", data:=.seq its.toArray },toks:=t' }:=
 I.laid (fun _ _ q=>Heap.get?_push_of_some _ q) (Nat.le_refl _) ⟨hz,its,0,hv,Heap.get?_push_size _ rfl⟩
theorem Inv.fresh (I:Inv X pins σ H s):H s.heap.objs.size=none:=I.hok.fresh (Nat.le_refl _)
theorem Inv.lstM (I:Inv X pins σ H s) (hH:H l=some (.lst xs)):xs.length<=sizeLine/\∃ (its:List Value) (n:Nat),dG xs its/\xs.length=its.length/\s.heap.get? l=some { cls:=.type "list", data:=.seq its.toArray n }:=by
 obtain ⟨z,its,n,r,e⟩:=I.hok l _ hH
 exact ⟨z,its,n,r,r.length,e⟩
theorem zHh {n:Nat} (h:n<=sizeLine):Builtin.List.listTooLong n=false:=by
 unfold Builtin.List.listTooLong
 exact decide_eq_false (by omega)
end
section
variable {X:Cx}
def zJp:V->List V->Hp->VK->Prop:=fun x vs H Q=>∃ l xs y,x=.ref l/\vs=[y]/\H l=some (.lst xs)/\xs.length < sizeLine/\Q .non (upd H l (.lst (xs++[y])))
theorem rS:MtM X "list.append" zJp:=by
 intro pins s σ H x vs v us Q I rx rv h
 obtain ⟨l,xs,y,rfl,rfl,hH,hz,q⟩:=h
 cases rx
 obtain ⟨u,rfl,ru⟩:=rv.one
 obtain ⟨z,its,n,r,hl,e⟩:=I.lstM hH
 refine call_meets F.slot_list_append ⟨_,e,rfl⟩ F.entry_list_append (F.args_list_append_2 _ _) (PySem.list_append l its.toArray n u (by rw [List.size_toArray];omega)) ⟨e,?_⟩
 refine ⟨.non,_,I.lset (its':=its++[u]) hH e (by simp) (r.append (.cons ru .nil)) ?_,rfl,q⟩
 rw [List.length_append,List.length_singleton]
 omega
def zOr:V->List V->Hp->VK->Prop:=fun x vs H Q=>∃ l xs y,x=.ref l/\vs=[]/\H l=some (.lst xs)/\xs[xs.length - 1]?=some y/\Q y (upd H l (.lst xs.dropLast))
theorem zLm:MtM X "list.pop" zOr:=by
 intro pins s σ H x vs v us Q I rx rv h
 obtain ⟨l,xs,y,rfl,rfl,hH,hy,q⟩:=h
 cases rx
 have hus:=rv.zero
 subst hus
 obtain ⟨z,its,n,r,hl,e⟩:=I.lstM hH
 obtain ⟨u,hu,ru⟩:=r.get hy
 have hy':its.toArray[its.toArray.size - 1]?=some u:=by
  show its.toArray[its.length - 1]?=some u
  rw [<-Array.getElem?_toList,<-hl]
  exact hu
 refine call_meets F.slot_list_pop ⟨_,e,rfl⟩ F.entry_list_pop (F.args_list_pop_1 _) (MeetsSeq.list_pop_last l its.toArray n u hy' (by rw [List.size_toArray];omega)) ⟨e,?_⟩
 refine ⟨y,_,I.lset (its':=its.dropLast) hH e ?_ r.dropLast ?_,ru,q⟩
 ·show its.toArray.eraseIdxIfInBounds (its.toArray.size - 1)=its.dropLast.toArray
  rw [List.size_toArray,List.eraseIdxIfInBounds_toArray,zCX]
 ·rw [List.length_dropLast]
  omega
def zOk:R2:=fun x y H Q=>∃ l k xs,x=.ref l/\y=.int k/\H l=some (.lst xs)/\-(2^63)<=k/\k < 2^63/\xs.length * k.toNat<=sizeLine/\
 ∀ p,H p=none->Q (.ref p) (upd H p (.lst (List.replicate k.toNat xs).flatten))
theorem zJs {α:Type} (xs:List α) (k:Nat):(List.replicate k xs).flatten.length=k * xs.length:=by
 induction k with
 | zero=>simp
 | succ k ih=>rw [List.replicate_succ,List.flatten_cons,List.length_append,ih,Nat.succ_mul,Nat.add_comm]
theorem zLA:OpR X (binaryOp .Mult) zOk:=by
 intro pins s σ H x y v u Q I rx ry h
 obtain ⟨l,k,xs,rfl,rfl,hH,h1,h2,hz,q⟩:=h
 cases rx
 obtain ⟨t,rfl⟩:=ry
 obtain ⟨z,its,n,r,hl,e⟩:=I.lstM hH
 have hlen:its.toArray.size * k.toNat<=sizeLine:=by rw [List.size_toArray,<-hl];exact hz
 have hcap:¬ its.toArray.size * k.toNat > (2^63 - 1) / 8:=by
  have:(sizeLine:Nat)<=(2^63 - 1) / 8:=by decide
  omega
 have hfit:¬ (!Builtin.List.listFitsIndex k)=true:=by
  rw [fitsIndex_both h1 h2]
  exact Bool.false_ne_true
 have hlong:¬ Builtin.List.listTooLong (its.toArray.size * k.toNat)=true:=by
  rw [zHh hlen]
  exact Bool.false_ne_true
 have hnew:List.foldl (fun x1 x2=>x1++x2) #[] (List.replicate (if its.toArray.isEmpty=true then 0 else k.toNat) its.toArray)=(List.replicate k.toNat its).flatten.toArray:=by
  have f0:∀ m:Nat,List.foldl (fun x1 x2=>x1++x2) #[] (List.replicate m its.toArray)=(List.replicate m its).flatten.toArray:=fun m=>by
   have:=yM its m []
   rw [List.nil_append] at this
   exact this
  rw [f0]
  cases its with
  | nil=>simp
  | cons a r'=>rw [if_neg (by simp)]
 refine wpAny_binaryOp_repeat_ref (T := "list") (U := "int") (by decide) ⟨_,e,rfl⟩ (fun s'=>typeIs_int s' k t) noFill_list_mul F.fills_int_mul F.slot_int_rmul repeat_list F.slot_int_index.lookup
  (call_meets F.slot_int_rmul (typeIs_int s k t) F.entry_int_rmul (F.args_int_rmul_2 _ _) (int___rmul___int_list k t l its.toArray n)
   ⟨e,rfl,⟨_,e,rfl⟩,call_meets F.slot_list_mul ⟨_,e,rfl⟩ F.entry_list_mul (F.args_list_mul_2 _ _) (AutoListH.list___mul___list_int_3 l its.toArray n k t hfit hcap hlong) ⟨e,?_⟩⟩)
 rw [hnew]
 exact ⟨.ref _,_,I.lnew (t':=s.toks) (r.rep k.toNat) (by rw [zJs,Nat.mul_comm];exact hz),rfl,q _ I.fresh⟩
end
section
variable {prog:Program} {w:World} {A:Around} {E:Value->Shared->Prop} {s:Shared}
set_option maxRecDepth 100000 in
end
section
variable {X:Cx}
end
end L2
namespace Att
open PySem PySem.W PySem.Calls PyProof.Rows
theorem sH {P:Params} {h:Heap}:∀ (ns:List Int) (vs:List Value),WellAll P h vs (ns.map WData.int)->IntsAre vs ns:=by
 intro ns
 induction ns with
 | nil=>
  intro vs w
  rw [List.map_nil] at w
  cases w
  exact .nil
 | cons n ns ih=>
  intro vs w
  rw [List.map_cons] at w
  cases w with
  | cons a b=>
   cases a
   exact .cons _ _ (ih _ b)
theorem zDK {l:OpenLaw} {n:Nat} (hn:l.most=some n) {P:Params} {h:Heap} {args:List WData} {vals:List Value}
  (hpre:l.row.toRowW.claim.pre args=true) (hwl:WellAll P h vals args):
  ∃ a vs ns,vals=[Value.ref a]/\args=[WData.list (ns.map WData.int)]/\h.get? a=some { cls:=.type "list", data:=.seq vs.toArray }/\IntsAre vs ns/\ns.length<=n:=by
 have hsh:WShape.hasAll [] args [.list .int]=true:=(pre_splitW hpre).1
 have hc:l.pre.holds [] { args:=args }=true:=(pre_splitW hpre).2
 obtain ⟨d,r,rfl,h1,h2⟩:=hasAllW_cons hsh
 obtain rfl:=hasAllW_nil h2
 obtain ⟨xs,rfl,h3⟩:=hasW_list h1
 obtain ⟨ns,rfl⟩:=items_int h3
 have hlen:ns.length<=n:=by
  unfold OpenLaw.pre at hc
  have h4:(WTm.not (.lt (.lit (.int (n:Int))) (.len (.arg 0)))).holds [] { args:=[.list (ns.map .int)] }=true:=by
   have h4:=(holds_andW hc).1
   rw [hn] at h4
   exact h4
  have h5:=condW_of h4 (w_not (w_lt w_lit (w_len_list (w_arg rfl))))
  rw [List.length_map] at h5
  refine Nat.le_of_not_lt fun q=>?_
  have q':(n:Int) < ((ns.length:Nat):Int):=by omega
  first
   | (rw [decide_eq_true q'] at h5;exact absurd h5 (by decide))
   | (simp at h5;omega)
 cases hwl with
 | cons w1 w2=>
  cases w2
  cases w1 with
  | list ho hall=>exact ⟨_,_,ns,rfl,rfl,ho,sH ns _ hall,hlen⟩
theorem zEQ (l:OpenLaw) (args:List WData):l.row.toRowW.claim.post args (.bool true) args=true:=
 postW_of (r:=l.row.toRowW) (X:=(true==true))
  (show WShape.has [] (.bool true) .bool=true by first | rfl | decide | simp [WShape.has,WShape.arms,WShape.armsAll])
  (show (WTm.eq .res (.lit (.bool true))).value [] { args:=args,res:=some (.bool true),after:=args }=some (.bool (true==true)) from w_eq_bool (w_res rfl) w_lit) rfl
theorem attach_call {l:OpenLaw} {n:Nat} {q:Program} {loose:List Str} {XP:(Str->Option Value)->Heap->Prop} {YP:World->Heap->Prop} {d:DefRec}
  (hn:l.most=some n) (hdf:d.params.defaults=[])
  (call:∀ (w:World) (s₀ s₁:Shared) (mg mb:Str->Option Value) (fa:Addr) (o:Obj) (pm cd doc:Value) (a:Addr) (vs:List Value) (ns:List Int),
   Ground q loose [] XP w s₀ mg mb s₁.heap->YP w s₁.heap->
   s₁.heap.get? fa=some o->o.data=.func (docDef d.name d.params d.body d.scope pm cd doc)->s₁.heap.CodeRec cd d.name->mg d.name=some (.ref fa)->
   s₁.heap.get? a=some { cls:=.type "list", data:=.seq vs.toArray }->IntsAre vs ns->ns.length<=n->s₁.gens=#[]->
   codeAny (model l.prog w) callerA (.call (.ref fa) ⟨[.ref a],[]⟩) (fun r s'=>r=.ok (.ret (.bool true))/\OldK s₁.heap s'.heap/\s'.os=s₁.os/\AllBare s'.gens) s₁):
  WalkO q loose XP YP l.row.toRowW d [] (fun f vs=>PySem.call f vs):=by
 intro w s₀ s₁ mg mb G Y fa o pm cd doc dV kV ho hd hcd hD hmg hg args vals as hpre hlay hrd hwl hlo
 obtain rfl:dV=.none:=Dflts.none hD hdf
 obtain rfl:kV=.none:=Dflts.noKw hD
 obtain ⟨a,vs,ns,rfl,rfl,hobj,hints,hlen⟩:=zDK hn hpre hwl
 refine enter_call (codeAny_mono (call w s₀ s₁ mg mb fa o pm cd doc a vs ns G Y ho (fd_plain hd) hcd hmg hobj hints hlen hg) fun r s' hq=>?_)
 obtain ⟨rfl,h2,h3,h4⟩:=hq
 exact ⟨.inl ⟨.bool true,.bool true,[],rfl,fun _=>rfl,.bool true,zEQ l _,fun _=>⟨List.Pairwise.nil,fun _ hm=>(nomatch hm)⟩⟩,h2,h3,h4⟩
section
variable {prog:Program} {w:World} {A:Around} {E:Value->Shared->Prop} {s:Shared} {K:Frag}
end
end Att
namespace L2
open PySem PySem.Spec PyProof.Rows
theorem zAf:∀ {vs:List Value} {ns:List Int},IntsAre vs ns->dG (ns.map V.int) vs
 | _,_,.nil=>.nil
 | _,_,.cons n t h=>.cons ⟨t,rfl⟩ (zAf h)
def zOw (H:Hp):Prop:=∀ b,H b=none∨∃ o xs,H b=some (.frz o (.lst xs))
end L2
namespace L2
open PySem PySem.Spec PyProof.Rows
end L2
namespace L2
open PySem PySem.Spec PyProof.Rows
def iT (s:Stmt):Arguments:=match s with
 | .FunctionDef _ a _ _ _ _ _ _ _ _=>a
 | _=>{ posonlyargs:=[],args:=[],vararg:=none,kwonlyargs:=[],kw_defaults:=[],kwarg:=none,defaults:=[] }
def eU (s:Stmt):List Stmt:=match s with
 | .FunctionDef _ _ b _ _ _ _ _ _ _=>b
 | _=>[]
def aK (s:Stmt):Scope:=match s with
 | .FunctionDef _ _ _ _ _ _ sc _ _ _=>sc
 | _=>{ kind:=.function,names:=[],isGenerator:=false,isCoroutine:=false }
structure Fun (K:PySem.W.Frag) (x qual:Str) (st:Stmt) (f:Addr) (fd:FuncData):Prop where
 ex:∃ (oc:Value) (od:Option Addr) (kV doc pm:Value) (an:Option Addr) (cdv ct:Value) (osl:Array (Option Value)),
  fd=PySem.W.fnOf x qual (iT st) (eU st) (aK st) .none kV doc pm an cdv ct/\K.lookup f=some ⟨oc,od,.func fd,osl⟩/\PySem.W.codeIn K cdv qual=true
 kp:PySem.W.keepIn K (.ref f)=true
section
variable {P:Program} {w:World} {K:PySem.W.Frag} {mg:Str->Option Value} {base:Heap}
theorem Fun.binds {x qual:Str} {st:Stmt} {f:Addr} {fd:FuncData} {ps:List Str} (F:Fun K x qual st f fd)
  (h:∀ (kV doc pm:Value) (an:Option Addr) (cdv ct:Value) (us:List Value),us.length=ps.length->bindArgs (PySem.W.fnOf x qual (iT st) (eU st) (aK st) .none kV doc pm an cdv ct) ⟨us,[]⟩=pure (ps.zip us)):zAe K fd ps []:=by
 obtain ⟨oc,od,kV,doc,pm,an,cdv,ct,osl,rfl,lk,hcd⟩:=F.ex
 exact .all (h kV doc pm an cdv ct)
theorem uZ {x qual:Str} {st:Stmt} {f:Addr} {oc:Value} {od an:Option Addr} {osl:Array (Option Value)} {kV doc pm cdv ct:Value} (l:K.lookup f=some ⟨oc,od,.func (PySem.W.fnOf x qual (iT st) (eU st) (aK st) .none kV doc pm an cdv ct),osl⟩)
  (c:PySem.W.codeIn K cdv qual=true) (k:PySem.W.keepIn K (.ref f)=true):Fun K x qual st f (PySem.W.fnOf x qual (iT st) (eU st) (aK st) .none kV doc pm an cdv ct):=⟨⟨oc,od,kV,doc,pm,an,cdv,ct,osl,rfl,l,c⟩,k⟩
end
section
variable {X:Cx}
theorem pv (i:Nat) {x:Str} {pos:Pos} (hN:X.N[i]?=some x:=by rfl) (hv:Vis X.env.scope x:=by first | exact Or.inl rfl | exact Or.inr (Or.inl rfl) | exact Or.inr (Or.inr rfl)) (hd:(x==("__debug__" : Str))=false:=by decide)
  (hcd:(x==("__classdict__" : Str))=false:=by decide):PE X (.Name x pos) (zBQ i):=rD hN hv hd hcd
end
def Same (H H':Hp):Prop:=∀ b o,H b=some o->H' b=some o
theorem Same.refl (H:Hp):Same H H:=fun _ _ h=>h
theorem Same.trans {H H1 H2:Hp} (a:Same H H1) (b:Same H1 H2):Same H H2:=fun c o h=>b c o (a c o h)
end L2
set_option maxHeartbeats 4000000
set_option exponentiation.threshold 20000
namespace L2
open PySem PySem.Spec PyProof.Rows
section
variable {X:Cx}
variable {tg:Expr}
end
end L2
namespace L2
open PySem PySem.Spec PyProof.Rows
end L2
namespace L2
open PySem PySem.Spec PyProof.Rows
section
variable {P:Program} {w:World} {H H':Hp} {h:Heap} {a:Addr} {o:HO}
theorem jZ.here (x:jZ P w H h a o):∃ ob,h.get? a=some ob:=by
 cases o with
 | lst xs=>obtain ⟨_,_,_,_,e⟩:=x;exact ⟨_,e⟩
 | tup xs=>obtain ⟨_,_,_,e⟩:=x;obtain ⟨ob,e,_⟩:=e;exact ⟨_,e⟩
 | dK kvs=>obtain ⟨_,_,_,_,e⟩:=x;obtain ⟨ob,_,_,e,_⟩:=e;exact ⟨_,e⟩
 | dT kvs=>obtain ⟨_,_,_,_,ob,_,_,e,_⟩:=x;exact ⟨_,e⟩
 | set S n=>obtain ⟨ob,_,_,_,e,_⟩:=x;exact ⟨_,e⟩
 | ins C dx fs=>obtain ⟨_,_,_,e,_⟩:=x;exact ⟨_,e⟩
 | own y=>exact x
 | xd fs=>obtain ⟨_,⟨ob,_,_,e,_⟩,_⟩:=x;exact ⟨_,e⟩
 | met f y=>exact ⟨_,x⟩
 | rng lo hi=>obtain ⟨_,_,_,e⟩:=x;exact ⟨_,e⟩
 | frz ob u=>exact ⟨_,x.1⟩
 | tbl ps=>exact ⟨_,x⟩
 | ext φ=>exact x.2.1
theorem HOk.none_of (ok:HOk P w H h) (e:h.get? a=none):H a=none:=by
 cases q:H a with
 | none=>rfl
 | some o=>
  obtain ⟨ob,z⟩:=(ok a o q).here
  rw [e] at z;cases z
end
structure Fly (P:Program) (w:World) (l:List Env) (H H':Hp) (s:Shared) (ea:Addr) (cls:Value) (s':Shared):Prop where
 os:s'.os=s.os
 bare:AllBare s'.gens
 un:Un (frs l) [] H H' s.heap s'.heap
 hok:HOk P w H' s'.heap
 ne:H' ea=none
 new:s.heap.get? ea=none
 fly:∃ B a0,Heap.FlyingW B l ea cls a0 s'.heap/\(∀ b o,s'.heap.get? b=some o->((∃ o',s.heap.get? b=some o')∨H' b≠none)->b∉frs l->B.get? b=some o)
def CX1 (P:Program) (w:World):CXT:=fun outer H s E e s'=>∃ ea cls H',e=.ref ea/\Fly P w outer H H' s ea cls s'/\E cls none H'
structure Own (X:Cx):Prop where
 stk:X.stack=X.env::X.outer
 fr:X.env.frame=some X.env.locals
 ex:X.ex=[]
section
variable {X:Cx} {pins:List (Addr×Obj)} {σ:St} {H H':Hp} {s s':Shared} {ea:Addr} {cls:Value}
theorem zCE (O:Own X):frs X.stack=X.env.locals::X.fs:=by
 rw [O.stk]
 show List.filterMap _ (_::_)=_
 rw [List.filterMap_cons,O.fr]
 rfl
theorem Inv.there0 (I:Inv X pins σ H s) (O:Own X) {b:Addr} {o:Obj} (e:X.s₀.heap.get? b=some o):∃ o',s.heap.get? b=some o':=I.base.there b o e (by rw [O.ex];simp)
theorem Inv.ne0 (I:Inv X pins σ H s) {b:Addr} {o:Obj} (e:X.s₀.heap.get? b=some o):b≠X.env.locals:=Nat.ne_of_lt (Nat.lt_of_lt_of_le (Heap.lt_size e) I.ok.above)
theorem Fly.leave (I:Inv X pins σ H s) (O:Own X) (F:Fly X.prog X.w X.stack H H' s ea cls s') {h':Heap} {B:Heap} {a0:Value}
  (hf:Heap.FlyingW B X.stack ea cls a0 s'.heap) (cov:∀ b o,s'.heap.get? b=some o->((∃ o',s.heap.get? b=some o')∨H' b≠none)->b∉frs X.stack->B.get? b=some o)
  (hf':Heap.FlyingW B X.outer ea cls a0 h') (up:s'.heap.UpToSlots h'):Fly X.prog X.w X.outer X.H₀ H' X.s₀ ea cls { s' with heap:=h' }:=by
 have fst:frs X.stack=X.env.locals::X.fs:=zCE O
 have nin:∀ {b:Addr},b≠X.env.locals->b∉X.fs->b∉frs X.stack:=fun h1 h2=>by rw [fst];simp [h1,h2]
 have trk:∀ {b:Addr},H' b≠none->b∉frs X.stack:=fun {b} hb hm=>by
  have h1:=I.stkFree b hm
  obtain ⟨_,o,ho,_⟩:=I.stack.mem hm
  exact hb (F.un.free b o ho h1 (by simp))
 have keepB:∀ {b:Addr} {o:Obj},s'.heap.get? b=some o->((∃ o',s.heap.get? b=some o')∨H' b≠none)->b∉frs X.stack->h'.get? b=some o:=fun e1 e2 e3=>hf'.1 _ _ (cov _ _ e1 e2 e3)
 have slotOf:∀ {b:Addr} {o:Obj},b∈frs X.stack->s'.heap.get? b=some o->∃ sl,h'.get? b=some { o with slots:=sl }:=fun {b o} hm e=>by
  obtain ⟨_,o',ho',hn⟩:=hf.2.2.1.mem hm
  rw [e] at ho';cases ho'
  exact up b o e hn
 refine ⟨F.os.trans I.os,F.bare,⟨?_,?_,?_,?_,?_,?_,?_⟩,?_,F.ne,?_,⟨B,a0,hf',?_⟩⟩
 ·intro b o e n hb hx
  have e1:=I.base.keep b o e n hb (by rw [O.ex];simp)
  have n1:=I.base.free b o e n (by rw [O.ex];simp)
  have hs:b∉frs X.stack:=nin (I.ne0 e) hb
  exact keepB (F.un.keep b o e1 n1 hs (by simp)) (.inl ⟨o,e1⟩) hs
 ·intro b o e n hb hx
  obtain ⟨sl,e1⟩:=I.base.slot b o e n hb (by rw [O.ex];simp)
  have n1:=I.base.free b o e n (by rw [O.ex];simp)
  have hs:b∈frs X.stack:=by rw [fst];exact List.mem_cons_of_mem _ hb
  obtain ⟨sl2,e2⟩:=F.un.slot b _ e1 n1 hs (by simp)
  obtain ⟨sl3,e3⟩:=slotOf hs e2
  exact ⟨sl3,e3⟩
 ·intro b o e n hx
  obtain ⟨o1,e1⟩:=I.there0 O e
  exact F.un.free b o1 e1 (I.base.free b o e n (by rw [O.ex];simp)) (by simp)
 ·intro b o e hx
  obtain ⟨o1,e1⟩:=I.there0 O e
  obtain ⟨o2,e2⟩:=F.un.there b o1 e1 (by simp)
  by_cases hs:b∈frs X.stack
  ·obtain ⟨sl,e3⟩:=slotOf hs e2
   exact ⟨_,e3⟩
  ·exact ⟨o2,keepB e2 (.inl ⟨o1,e1⟩) hs⟩
 ·exact fun b xs e=>F.un.tups b xs (I.base.tups b xs e)
 ·exact fun b o u e=>F.un.frzs b o u (I.base.frzs b o u e)
 ·intro b ps e
  obtain ⟨m1,e1⟩:=I.base.tbls b ps e
  obtain ⟨m2,e2⟩:=F.un.tbls b _ e1
  exact ⟨m1++m2,by rw [e2,Array.append_assoc]⟩
 ·intro a o e
  refine (F.hok a o e).stay (fun b u hb z=>?_) (fun b z=>z) (fun b xs z=>z)
  have hb':H' b≠none:=by
   rcases hb with rfl | hb
   ·rw [e];simp
   ·rw [hb];simp
  exact keepB z (.inr hb') (trk hb')
 ·show X.s₀.heap.get? ea=none
  cases q:X.s₀.heap.get? ea with
  | none=>rfl
  | some o=>
   obtain ⟨o1,e1⟩:=I.there0 O q
   rw [F.new] at e1;cases e1
 ·intro b o e c hb
  have c':(∃ o',s.heap.get? b=some o')∨H' b≠none:=by
   rcases c with ⟨o',c⟩ | c
   ·exact .inl (I.there0 O c)
   ·exact .inr c
  have hs:b∉frs X.stack:=by
   rcases c with ⟨o',c⟩ | c
   ·exact nin (I.ne0 c) hb
   ·exact trk c
  have ex:∃ o2,s'.heap.get? b=some o2:=by
   rcases c' with ⟨o',c1⟩ | c1
   ·exact F.un.there b o' c1 (by simp)
   ·cases q:H' b with
    | none=>exact absurd q c1
    | some u=>exact (F.hok b u q).here
  obtain ⟨o2,e2⟩:=ex
  have z:=keepB e2 c' hs
  have z':h'.get? b=some o:=e
  rw [z] at z';cases z'
  exact cov b o e2 c' hs
end
end L2
namespace L2
open PySem PySem.Spec PyProof.Rows
section
variable {X:Cx} {pins:List (Addr×Obj)} {σ:St} {H H':Hp} {s s':Shared} {ea:Addr} {cls:Value}
theorem zKc (l:List Env):∀ env∈l,∀ b,env.frame=some b->b∈frs l:=fun env he b hb=>List.mem_filterMap.mpr ⟨env,he,hb⟩
theorem Fly.made (I:Inv X pins σ H s) (O:Own X) {vs:List Value} (hx:Heap.MadeExcOf s.heap s'.heap ea cls vs) (hos:s'.os=s.os) (hg:AllBare s'.gens) {h':Heap} {t:Addr}
  (hf':Heap.FlyingW (PySem.W.hideAll s.heap (frs X.stack)) X.outer ea cls (.ref t) h') (up:s'.heap.UpToSlots h'):Fly X.prog X.w X.outer X.H₀ H X.s₀ ea cls { s' with heap:=h' }:=by
 have fst:frs X.stack=X.env.locals::X.fs:=zCE O
 have nin:∀ {b:Addr},b≠X.env.locals->b∉X.fs->b∉frs X.stack:=fun h1 h2=>by rw [fst];simp [h1,h2]
 have trk:∀ {b:Addr},H b≠none->b∉frs X.stack:=fun {b} hb hm=>hb (I.stkFree b hm)
 have keepB:∀ {b:Addr} {o:Obj},s.heap.get? b=some o->b∉frs X.stack->h'.get? b=some o:=fun e1 e3=>hf'.1 _ _ (PySem.W.hideAll_get _ e1 e3)
 have slotOf:∀ {b:Addr} {o:Obj},b∈frs X.stack->s.heap.get? b=some o->∃ sl,h'.get? b=some { o with slots:=sl }:=fun {b o} hm e=>by
  obtain ⟨_,o',ho',hn⟩:=I.stack.mem hm
  rw [e] at ho';cases ho'
  exact up b o (hx.keeps b o e) hn
 refine ⟨hos.trans I.os,hg,⟨?_,?_,?_,?_,?_,?_,?_⟩,?_,?_,?_,⟨_,_,hf',?_⟩⟩
 ·intro b o e n hb hx'
  exact keepB (I.base.keep b o e n hb (by rw [O.ex];simp)) (nin (I.ne0 e) hb)
 ·intro b o e n hb hx'
  obtain ⟨sl,e1⟩:=I.base.slot b o e n hb (by rw [O.ex];simp)
  have hs:b∈frs X.stack:=by rw [fst];exact List.mem_cons_of_mem _ hb
  obtain ⟨sl3,e3⟩:=slotOf hs e1
  exact ⟨sl3,e3⟩
 ·exact fun b o e n hx'=>I.base.free b o e n (by rw [O.ex];simp)
 ·intro b o e hx'
  obtain ⟨o1,e1⟩:=I.there0 O e
  by_cases hs:b∈frs X.stack
  ·obtain ⟨sl,e3⟩:=slotOf hs e1
   exact ⟨_,e3⟩
  ·exact ⟨o1,keepB e1 hs⟩
 ·exact fun b xs e=>I.base.tups b xs e
 ·exact fun b o u e=>I.base.frzs b o u e
 ·exact fun b ps e=>I.base.tbls b ps e
 ·intro a o e
  refine (I.hok a o e).stay (fun b u hb z=>?_) (fun b z=>z) (fun b xs z=>z)
  have hb':H b≠none:=by
   rcases hb with rfl | hb
   ·rw [e];simp
   ·rw [hb];simp
  exact keepB z (trk hb')
 ·exact I.hok.none_of hx.new
 ·show X.s₀.heap.get? ea=none
  cases q:X.s₀.heap.get? ea with
  | none=>rfl
  | some o=>
   obtain ⟨o1,e1⟩:=I.there0 O q
   rw [hx.new] at e1;cases e1
 ·intro b o e c hb
  have hs:b∉frs X.stack:=by
   rcases c with ⟨o',c⟩ | c
   ·exact nin (I.ne0 c) hb
   ·exact trk c
  have ex:∃ o2,s.heap.get? b=some o2:=by
   rcases c with ⟨o',c1⟩ | c1
   ·exact I.there0 O c1
   ·cases q:H b with
    | none=>exact absurd q c1
    | some u=>exact (I.hok b u q).here
  obtain ⟨o2,e2⟩:=ex
  have z:=keepB e2 hs
  have z':h'.get? b=some o:=e
  rw [z] at z';cases z'
  exact PySem.W.hideAll_get _ e2 hs
end
section
variable {CX:CXT} {P:Program} {w:World} {K:PySem.W.Frag} {mg:Str->Option Value} {base:Heap} {N:List Str} {qual:Str} {scope:Scope} {f:Addr} {cd:Value} {A:Around} {outer:List Env} {s₀:Shared} {H₀:Hp} {E:XK}
theorem zEW:Own (zDo CX P w K mg base N qual scope f cd A outer s₀ H₀ E):=⟨rfl,rfl,rfl⟩
theorem zNc {E':XK} (h:∀ c H',E' c none H'->E c none H'):zCD (CX1 P w) (zDo (CX1 P w) P w K mg base N qual scope f cd A outer s₀ H₀ E) E':=by
 intro pins σ H s e s' I hc
 obtain ⟨ea,cls,H',rfl,F,q⟩:=hc
 obtain ⟨B,a0,hf,cov⟩:=F.fly
 have O:Own (zDo (CX1 P w) P w K mg base N qual scope f cd A outer s₀ H₀ E):=zEW
 exact wpAny_leaves_onW (I.ok.frames.trans (congrArg some O.stk)) O.fr hf fun h' hf' up=>⟨ea,cls,H',rfl,F.leave I O hf cov hf' up,h _ _ q⟩
theorem zBr {pins:List (Addr×Obj)} {σ:St} {H:Hp} {s s':Shared} {ea:Addr} {cls:Value} {vs:List Value} (I:Inv (zDo (CX1 P w) P w K mg base N qual scope f cd A outer s₀ H₀ E) pins σ H s)
  (hx:Heap.MadeExcOf s.heap s'.heap ea cls vs) (hos:s'.os=s.os) (hg:AllBare s'.gens) (q:E cls none H):(zDo (CX1 P w) P w K mg base N qual scope f cd A outer s₀ H₀ E).xe (.ref ea) s':=by
 have O:Own (zDo (CX1 P w) P w K mg base N qual scope f cd A outer s₀ H₀ E):=zEW
 have hst:=O.stk
 exact wpAny_leaves_madeW (base:=PySem.W.hideAll s.heap (frs (zDo (CX1 P w) P w K mg base N qual scope f cd A outer s₀ H₀ E).stack)) (h:=s.heap) (I.ok.frames.trans (congrArg some O.stk)) O.fr (fun b o z=>PySem.W.of_hideAll _ z)
  (PySem.W.funFrames_hide (I.stack) (zKc _)) hx fun h' t hf' _ _ up=>⟨ea,cls,H,rfl,Fly.made I O hx hos hg hf' up,q⟩
end
structure Err (K:PySem.W.Frag) (mg:Str->Option Value) (x:Str) (C:Addr):Prop where
 own:∀ h:Heap,K.In h->∃ bm newId B initId,OwnCls x C bm newId mg h/\ExcBaseFacts B newId initId bm
end L2
namespace L3
open PySem
inductive D where
 | non | bl (b:Bool) | int (i:Int) | str (x:Str) | tup (ds:List D) | lst (ds:List D)
inductive Res (α:Type) where
 | ok (a:α) | err (c:Str) | no
def Res.bind {α β:Type} (x:Res α) (f:α->Res β):Res β:=match x with
 | .ok a=>f a
 | .err c=>.err c
 | .no=>.no
inductive Sl where
 | un | val (d:D) | own (ds:List D) | exc (c:Str) | tab (T:List (Str×Str))
abbrev Rho:=List Sl
inductive Rt where
 | v (d:D) | f (ds:List D)
def Rt.d:Rt->D
 | .v d=>d
 | .f ds=>.lst ds
inductive Fl where
 | nx (ρ:Rho) | ret (r:Rt) | brk (ρ:Rho) | ctn (ρ:Rho)
abbrev Ev:=Rho->Res D
abbrev Fv:=Rho->Res (List D)
abbrev Tv:=Rho->Res Bool
abbrev Sv:=Rho->Res Fl
abbrev Mir:=List D->Res Rt
mutual
def eqD:D->D->Bool
 | .non,.non=>true
 | .bl a,.bl b=>a==b
 | .bl a,.int b=>(if a then 1 else 0)==b
 | .int a,.bl b=>a==(if b then 1 else 0)
 | .int a,.int b=>a==b
 | .str a,.str b=>a==b
 | .tup ds,.tup es=>zEy ds es
 | .lst ds,.lst es=>zEy ds es
 | _,_=>false
def zEy:List D->List D->Bool
 | [],[]=>true
 | d::ds,e::es=>eqD d e && zEy ds es
 | _,_=>false
end
mutual
def dep:D->Nat
 | .tup ds=>depS ds+1
 | .lst ds=>depS ds+1
 | _=>0
def depS:List D->Nat
 | []=>0
 | d::ds=>max (dep d) (depS ds)
end
mutual
def noL:D->Bool
 | .tup ds=>noLs ds
 | .lst _=>false
 | _=>true
def noLs:List D->Bool
 | []=>true
 | d::ds=>noL d && noLs ds
end
theorem rA:∀ {ds:List D} {d:D},d∈ds->dep d<=depS ds
 | e::ds,d,h=>by
  rw [depS]
  rcases List.mem_cons.mp h with rfl | h
  ·exact Nat.le_max_left ..
  ·exact Nat.le_trans (rA h) (Nat.le_max_right ..)
theorem zBe {n:Nat}:∀ {ds:List D},(∀ d∈ds,dep d<=n)->depS ds<=n
 | [],_=>Nat.zero_le _
 | d::ds,h=>by
  rw [depS]
  exact Nat.max_le.mpr ⟨h d List.mem_cons_self,zBe fun e he=>h e (List.mem_cons_of_mem _ he)⟩
theorem zGR:∀ {ds:List D},noLs ds=true ↔ ∀ d∈ds,noL d=true
 | []=>by simp [noLs]
 | d::ds=>by rw [noLs,Bool.and_eq_true,zGR];simp
theorem lG:∀ (ds es:List D),zEy ds es=((List.range (min ds.length es.length)).all (fun j=>eqD (ds.getD j .non) (es.getD j .non)) && ds.length==es.length)
 | [],[]=>rfl
 | [],e::es=>by simp [zEy]
 | d::ds,[]=>by simp [zEy]
 | d::ds,e::es=>by
  rw [zEy,lG ds es]
  have h:min (d::ds).length (e::es).length=min ds.length es.length+1:=by simp only [List.length_cons];omega
  rw [h,List.range_succ_eq_map]
  simp [List.all_map,Function.comp_def,Bool.and_assoc]
mutual
theorem nN:∀ d:D,eqD d d=true
 | .non=>rfl
 | .bl b=>by simp [eqD]
 | .int i=>by simp [eqD]
 | .str x=>by simp [eqD]
 | .tup ds=>by rw [eqD];exact sT ds
 | .lst ds=>by rw [eqD];exact sT ds
theorem sT:∀ ds:List D,zEy ds ds=true
 | []=>rfl
 | d::ds=>by rw [zEy,nN d,sT ds];rfl
end
def nb (i:Int):Nat:=i.natAbs.log2+1
theorem zJM (i:Int):i.natAbs < 2^nb i:=Nat.lt_log2_self
theorem zMY {i:Int} {m:Nat} (h:i.natAbs < 2^m) (hm:0 < m):nb i<=m:=by
 unfold nb
 by_cases h0:i.natAbs=0
 ·rw [h0];exact hm
 ·exact (Nat.log2_lt h0).mpr h
def iV (i j:Int):Bool:=(decide (-(2^64) < i) && decide (i < 2^64)) || (decide (-(2^64) < j) && decide (j < 2^64)) || decide (nb i+nb j<=134217728)
def kB (j:Int):Bool:=decide (j≠0) && decide (nb j<=9000)
def qE (i j:Int):Bool:=decide (0<=j) && decide ((nb i:Int) * j<=2^27)
abbrev Op2:=D->D->Res D
def zK:Op2
 | .int i,.int j=>.ok (.int (i+j))
 | .tup a,.tup b=>if a.length+b.length<=16777216 then .ok (.tup (a++b)) else .no
 | _,_=>.no
def zBd:Op2
 | .int i,.int j=>.ok (.int (i+j))
 | _,_=>.no
def uB:Op2
 | .int i,.int j=>.ok (.int (i - j))
 | _,_=>.no
def mZ:Op2
 | .int i,.int j=>if iV i j=true then .ok (.int (i * j)) else .no
 | _,_=>.no
def rC:Op2
 | .int i,.int j=>if kB j=true then .ok (.int (i.fdiv j)) else .no
 | _,_=>.no
def oM:Op2
 | .int i,.int j=>if j≠0 then .ok (.int (i.fmod j)) else .no
 | _,_=>.no
def zGL:Op2
 | .int i,.int j=>if qE i j=true then .ok (.int (i^j.toNat)) else .no
 | _,_=>.no
def oEq (x y:D):Res D:=if dep x<=50 then .ok (.bl (eqD x y)) else .no
def oNe (x y:D):Res D:=if dep x<=50 then .ok (.bl (!eqD x y)) else .no
def oLt:Op2
 | .int i,.int j=>.ok (.bl (decide (i < j)))
 | _,_=>.no
def oLe:Op2
 | .int i,.int j=>.ok (.bl (decide (i<=j)))
 | _,_=>.no
def oGt:Op2
 | .int i,.int j=>.ok (.bl (decide (j < i)))
 | _,_=>.no
def oGe:Op2
 | .int i,.int j=>.ok (.bl (decide (j<=i)))
 | _,_=>.no
def atD (ds:List D) (i:Int):Option D:=if 0<=i then ds[i.toNat]? else if 0<=(ds.length:Int)+i then ds[((ds.length:Int)+i).toNat]? else none
def ofO {α:Type}:Option α->Res α
 | some a=>.ok a
 | none=>.no
def oIx:Op2
 | .tup ds,.int i=>ofO (atD ds i)
 | .lst ds,.int i=>ofO (atD ds i)
 | _,_=>.no
def oIn:Op2
 | d,.lst ds=>if depS ds<=50 then .ok (.bl (ds.any fun e=>eqD e d)) else .no
 | d,.tup ds=>if depS ds<=50 then .ok (.bl (ds.any fun e=>eqD e d)) else .no
 | _,_=>.no
def zGO:D->Res D
 | .int i=>.ok (.int (-i))
 | _=>.no
def zNX:D->Res D
 | .bl b=>.ok (.bl (!b))
 | _=>.no
def aJ (i:Nat) (ρ:Rho):Res D:=match ρ[i]? with
 | some (.val d)=>.ok d
 | _=>.no
def eC (d:D) (_ρ:Rho):Res D:=.ok d
def eOp (o:Op2) (a b:Ev) (ρ:Rho):Res D:=(a ρ).bind fun x=>(b ρ).bind fun y=>o x y
def eUn (o:D->Res D) (a:Ev) (ρ:Rho):Res D:=(a ρ).bind o
def zNt (a b:Ev) (ρ:Rho):Res D:=(a ρ).bind fun x=>match x with
 | .bl c=>if c=true then b ρ else .ok (.bl false)
 | _=>.no
def eOr (a b:Ev) (ρ:Rho):Res D:=(a ρ).bind fun x=>match x with
 | .bl c=>if c=true then .ok (.bl true) else b ρ
 | _=>.no
def eIf (t:Tv) (a b:Ev) (ρ:Rho):Res D:=(t ρ).bind fun c=>if c=true then a ρ else b ρ
def aNil (_ρ:Rho):Res (List D):=.ok []
def aE (e:Ev) (r:Fv) (ρ:Rho):Res (List D):=(e ρ).bind fun d=>(r ρ).bind fun ds=>.ok (d::ds)
def zFb (a:Fv) (ρ:Rho):Res D:=(a ρ).bind fun ds=>if ds.length<=16777216 then .ok (.tup ds) else .no
def aW (m:Mir) (a:Fv) (ρ:Rho):Res D:=(a ρ).bind fun ds=>(m ds).bind fun r=>.ok r.d
def nA:List D->Res D
 | [.lst ds]=>.ok (.int ds.length)
 | [.tup ds]=>.ok (.int ds.length)
 | _=>.no
def zHX:List D->Res D
 | [.int i]=>.ok (.int (if i < 0 then -i else i))
 | _=>.no
def zOB:List D->Res D
 | [.int i,.int j]=>.ok (.int (if j > i then j else i))
 | _=>.no
def zOb:List D->Res D
 | [.int i,.int j]=>.ok (.int (if j < i then j else i))
 | _=>.no
def zJi:List D->Res D
 | [.lst ds]=>.ok (.tup ds)
 | [.tup ds]=>.ok (.tup ds)
 | _=>.no
def eB (b:List D->Res D) (a:Fv) (ρ:Rho):Res D:=(a ρ).bind b
def tyN:D->String
 | .non => "NoneType" | .bl _ => "bool" | .int _ => "int" | .str _ => "str" | .tup _ => "tuple" | .lst _ => "list"
def isT (T:String) (d:D):Bool:=tyN d==T || (T == "int" && tyN d == "bool")
def zOx (T:String) (a:Ev) (ρ:Rho):Res D:=(a ρ).bind fun d=>.ok (.bl (isT T d))
def isNon:D->Bool
 | .non=>true
 | _=>false
def Sl.frz:Sl->Sl
 | .own ds=>.val (.lst ds)
 | s=>s
def zMk (e:Ev) (ρ:Rho):Res D:=(e (ρ.map Sl.frz)).bind fun d=>if noL d=true then .ok d else .no
def jX (a:Fv) (ρ:Rho):Res (List D):=(a ρ).bind fun ds=>if ds.length<=16777216 then .ok ds else .no
def eZ (m:Mir) (a:Fv) (ρ:Rho):Res (List D):=(a ρ).bind fun ds=>(m ds).bind fun r=>match r with
 | .f ds=>.ok ds
 | .v _=>.no
def zE (a:Fv) (ρ:Rho):Res (List D):=(a ρ).bind fun ds=>match ds with
 | [.lst ds]=>.ok ds
 | [.tup ds]=>.ok ds
 | _=>.no
def zEA (a b:Ev) (ρ:Rho):Res (List D):=(a ρ).bind fun x=>(b ρ).bind fun y=>match x,y with
 | .lst ds,.lst es=>if ds.length+es.length<=16777216 then .ok (ds++es) else .no
 | _,_=>.no
def eF (f:Fv) (ρ:Rho):Res D:=(f ρ).bind fun ds=>.ok (.lst ds)
def cut (n:Nat) (i:Option Int) (d:Nat):Nat:=match i with
 | none=>d
 | some i=>if 0<=i then min i.toNat n else ((n:Int)+i).toNat
def iP (ds:List D) (lo hi:Option Int):List D:=(ds.drop (cut ds.length lo 0)).take (cut ds.length hi ds.length - cut ds.length lo 0)
abbrev Ov:=Rho->Res (Option Int)
def oN (_ρ:Rho):Res (Option Int):=.ok none
def oS (e:Ev) (ρ:Rho):Res (Option Int):=(e ρ).bind fun d=>match d with
 | .int i=>.ok (some i)
 | _=>.no
def fSl (a:Ev) (lo hi:Ov) (ρ:Rho):Res (List D):=(a ρ).bind fun x=>(lo ρ).bind fun l=>(hi ρ).bind fun h=>match x with
 | .lst ds=>.ok (iP ds l h)
 | _=>.no
def zOz (a:Ev) (lo hi:Ov) (ρ:Rho):Res D:=(a ρ).bind fun x=>(lo ρ).bind fun l=>(hi ρ).bind fun h=>match x with
 | .tup ds=>if (iP ds l h).length < ds.length then .ok (.tup (iP ds l h)) else .no
 | _=>.no
def gF (e:Ev) (ρ:Rho):Res Bool:=(e ρ).bind fun d=>match d with
 | .bl b=>.ok b
 | _=>.no
def tFrzB (t:Tv) (ρ:Rho):Res Bool:=t (ρ.map Sl.frz)
def zGo (t:Tv) (ρ:Rho):Res Bool:=(t ρ).bind fun b=>.ok (!b)
def zCR (t u:Tv) (ρ:Rho):Res Bool:=(t ρ).bind fun b=>if b=true then u ρ else .ok false
def zMe (t u:Tv) (ρ:Rho):Res Bool:=(t ρ).bind fun b=>if b=true then .ok true else u ρ
def sNext (ρ:Rho):Res Fl:=.ok (.nx ρ)
def bJ (a b:Sv) (ρ:Rho):Res Fl:=(a ρ).bind fun f=>match f with
 | .nx ρ'=>b ρ'
 | f=>.ok f
def sIf (t:Tv) (a b:Sv) (ρ:Rho):Res Fl:=(t ρ).bind fun c=>if c=true then a ρ else b ρ
def dM (i:Nat) (e:Ev) (ρ:Rho):Res Fl:=(e ρ).bind fun d=>.ok (.nx (ρ.set i (.val d)))
def zFZ (i:Nat) (f:Fv) (ρ:Rho):Res Fl:=(f ρ).bind fun ds=>.ok (.nx (ρ.set i (.own ds)))
def tO (e:Ev) (ρ:Rho):Res Fl:=(e ρ).bind fun _=>.ok (.nx ρ)
def jD (e:Ev) (ρ:Rho):Res Fl:=(e (ρ.map Sl.frz)).bind fun d=>.ok (.ret (.v d))
def jK (f:Fv) (ρ:Rho):Res Fl:=(f (ρ.map Sl.frz)).bind fun ds=>.ok (.ret (.f ds))
def iG (i:Nat) (ρ:Rho):Res Fl:=match ρ[i]? with
 | some (.own ds)=>.ok (.ret (.f ds))
 | _=>.no
def sRetN (_ρ:Rho):Res Fl:=.ok (.ret (.v .non))
def iZ (c:Str) (a:Fv) (ρ:Rho):Res Fl:=(a ρ).bind fun ds=>if ds.length<=16777216 then .err c else .no
def sNo (_ρ:Rho):Res Fl:=.no
def zEJ (i:Nat) (e:Ev) (ρ:Rho):Res Fl:=match ρ[i]? with
 | some (.own ds)=>(e ρ).bind fun d=>if ds.length < 16777216 then .ok (.nx (ρ.set i (.own (ds++[d])))) else .no
 | _=>.no
def zMb (i:Nat) (k e:Ev) (ρ:Rho):Res Fl:=(e ρ).bind fun d=>match ρ[i]? with
 | some (.own ds)=>(k ρ).bind fun j=>match j with
  | .int j=>if 0<=j/\j < ds.length then .ok (.nx (ρ.set i (.own (ds.set j.toNat d)))) else if -(ds.length:Int)<=j/\j < 0 then .ok (.nx (ρ.set i (.own (ds.set (j+ds.length).toNat d)))) else .no
  | _=>.no
 | _=>.no
def zKm (i:Nat) (ρ:Rho):Res Fl:=match ρ[i]? with
 | some (.own ds)=>if ds.length=0 then .no else .ok (.nx (ρ.set i (.own ds.dropLast)))
 | _=>.no
def zHT (i:Nat) (o:Op2) (e:Ev) (ρ:Rho):Res Fl:=match ρ[i]? with
 | some (.val x)=>(e ρ).bind fun y=>(o x y).bind fun d=>.ok (.nx (ρ.set i (.val d)))
 | _=>.no
def sFrz (s:Sv) (ρ:Rho):Res Fl:=s (ρ.map Sl.frz)
def noErr {α:Type}:Res α->Res α
 | .err _=>.no
 | r=>r
def zGC (m:Mir) (a:Fv) (ρ:Rho):Res Fl:=(noErr (a ρ)).bind fun ds=>(m ds).bind fun _=>.ok (.nx ρ)
def zKC (tb:List Str) (i:Nat) (b h:Sv) (ρ:Rho):Res Fl:=match b ρ with
 | .err c=>if tb.contains c=true then (match h (ρ.set i (.exc c)) with
   | .ok (.nx ρ')=>.ok (.nx (ρ'.set i .un))
   | _=>.no) else .no
 | r=>r
def zHL (anc:List (Str×List Str)) (i:Nat) (cs:List Str) (ρ:Rho):Res D:=match ρ[i]? with
 | some (.exc c)=>(match anc.lookup c with
  | some l=>.ok (.bl (cs.any fun x=>l.contains x))
  | none=>.no)
 | _=>.no
abbrev Gv:=D->Rho->Res Rho
def gName (i:Nat) (d:D) (ρ:Rho):Res Rho:=.ok (ρ.set i (.val d))
def zKv (gs:List D->Rho->Res Rho) (d:D) (ρ:Rho):Res Rho:=match d with
 | .tup ds=>gs ds ρ
 | _=>.no
def zMf (ds:List D) (ρ:Rho):Res Rho:=match ds with
 | []=>.ok ρ
 | _=>.no
def zFH (g:Gv) (r:List D->Rho->Res Rho) (ds:List D) (ρ:Rho):Res Rho:=match ds with
 | d::ds=>(g d ρ).bind fun ρ'=>r ds ρ'
 | []=>.no
def zOf (g:Gv) (f:Ev) (ρ:Rho):Res Fl:=(f ρ).bind fun d=>(g d ρ).bind fun ρ'=>.ok (.nx ρ')
def dY (g:Gv) (b:Sv):List D->Rho->Res Fl
 | [],ρ=>.ok (.nx ρ)
 | d::ds,ρ=>(g d ρ).bind fun ρ1=>(b ρ1).bind fun f=>match f with
  | .nx ρ2=>dY g b ds ρ2
  | .ctn ρ2=>dY g b ds ρ2
  | .brk ρ2=>.ok (.nx ρ2)
  | .ret r=>.ok (.ret r)
def zAC (it:Fv) (g:Gv) (b:Sv) (ρ:Rho):Res Fl:=(it ρ).bind fun ds=>dY g b ds ρ
def wJ (e:Ev) (ρ:Rho):Res (List D):=(e ρ).bind fun d=>match d with
 | .lst ds=>.ok ds
 | .tup ds=>.ok ds
 | _=>.no
def rng (lo:Int) (n:Nat) (c:Int):List D:=(List.range n).map fun (i:Nat)=>D.int (lo+(i:Int) * c)
def zAu (a:Fv) (ρ:Rho):Res (List D):=(a ρ).bind fun ds=>match ds with
 | [.int j]=>if -(2^62)<=j/\j < 2^62 then .ok (rng 0 j.toNat 1) else .no
 | _=>.no
def zDJ (a:Fv) (ρ:Rho):Res (List D):=(a ρ).bind fun ds=>match ds with
 | [.int i,.int j]=>if -(2^62)<=i/\i < 2^62/\-(2^62)<=j/\j < 2^62 then .ok (rng i (j - i).toNat 1) else .no
 | _=>.no
def wh (t:Tv) (b:Sv):Nat->Rho->Res Fl
 | 0,_=>.no
 | n+1,ρ=>(t ρ).bind fun c=>if c=true then (b ρ).bind fun f=>match f with
   | .nx ρ2=>wh t b n ρ2
   | .ctn ρ2=>wh t b n ρ2
   | .brk ρ2=>.ok (.nx ρ2)
   | .ret r=>.ok (.ret r)
  else .ok (.nx ρ)
open Classical in
def eV (t:Tv) (b:Sv) (ρ:Rho):Res Fl:=if h:∃ n,wh t b n ρ≠.no then wh t b h.choose ρ else .no
theorem xD {t:Tv} {b:Sv}:∀ {n:Nat} {ρ:Rho} {k:Nat},wh t b n ρ≠.no->n<=k->wh t b k ρ=wh t b n ρ
 | 0,ρ,k,h,_=>absurd rfl h
 | n+1,ρ,0,h,l=>absurd l (by omega)
 | n+1,ρ,k+1,h,l=>by
  rw [wh,wh]
  rw [wh] at h
  cases ht:t ρ with
  | no=>rfl
  | err c=>rfl
  | ok c=>
   rw [ht] at h
   simp only [Res.bind] at h ⊢
   cases c with
   | false=>rfl
   | true=>
    simp only [if_true] at h ⊢
    cases hb:b ρ with
    | no=>rfl
    | err c=>rfl
    | ok f=>
     rw [hb] at h
     cases f with
     | nx ρ2=>exact xD h (by omega)
     | ctn ρ2=>exact xD h (by omega)
     | brk ρ2=>rfl
     | ret r=>rfl
theorem fW {t:Tv} {b:Sv} {n:Nat} {ρ:Rho} (h:wh t b n ρ≠.no):eV t b ρ=wh t b n ρ:=by
 have hx:∃ n,wh t b n ρ≠.no:=⟨n,h⟩
 unfold eV
 rw [dif_pos hx]
 rcases Nat.le_total n hx.choose with l | l
 ·exact xD h l
 ·exact (xD hx.choose_spec l).symm
theorem mQ {t:Tv} {b:Sv} {ρ:Rho} (h:eV t b ρ≠.no):∃ n,eV t b ρ=wh t b n ρ:=by
 unfold eV at h ⊢
 split
 ·exact ⟨_,rfl⟩
 ·rename_i hx;rw [dif_neg hx] at h;exact absurd rfl h
theorem yX {t:Tv} {b:Sv} {ρ:Rho}:eV t b ρ=((t ρ).bind fun c=>if c=true then (b ρ).bind fun f=>match f with
   | .nx ρ2=>eV t b ρ2
   | .ctn ρ2=>eV t b ρ2
   | .brk ρ2=>.ok (.nx ρ2)
   | .ret r=>.ok (.ret r)
  else .ok (.nx ρ)):=by
 have key:∀ n,wh t b (n+1) ρ≠.no->wh t b (n+1) ρ=((t ρ).bind fun c=>if c=true then (b ρ).bind fun f=>match f with
   | .nx ρ2=>eV t b ρ2
   | .ctn ρ2=>eV t b ρ2
   | .brk ρ2=>.ok (.nx ρ2)
   | .ret r=>.ok (.ret r)
  else .ok (.nx ρ)):=by
  intro n h
  rw [wh] at h ⊢
  cases ht:t ρ with
  | no=>rfl
  | err c=>rfl
  | ok c=>
   rw [ht] at h
   simp only [Res.bind] at h ⊢
   cases c with
   | false=>rfl
   | true=>
    simp only [if_true] at h ⊢
    cases hb:b ρ with
    | no=>rfl
    | err c=>rfl
    | ok f=>
     rw [hb] at h
     cases f with
     | nx ρ2=>exact (fW h).symm
     | ctn ρ2=>exact (fW h).symm
     | brk ρ2=>rfl
     | ret r=>rfl
 by_cases h:eV t b ρ=.no
 ·rw [h]
  cases ht:t ρ with
  | no=>rfl
  | err c=>
   exfalso
   have q:wh t b 1 ρ=.err c:=by rw [wh,ht];rfl
   have:=fW (t:=t) (b:=b) (ρ:=ρ) (n:=1) (by rw [q];exact fun z=>by cases z)
   rw [h,q] at this;cases this
  | ok c=>
   simp only [Res.bind]
   cases c with
   | false=>
    exfalso
    have q:wh t b 1 ρ=.ok (.nx ρ):=by rw [wh,ht];rfl
    have:=fW (t:=t) (b:=b) (ρ:=ρ) (n:=1) (by rw [q];exact fun z=>by cases z)
    rw [h,q] at this;cases this
   | true=>
    simp only [if_true]
    cases hb:b ρ with
    | no=>rfl
    | err c=>
     exfalso
     have q:wh t b 1 ρ=.err c:=by rw [wh,ht];simp [Res.bind,hb]
     have:=fW (t:=t) (b:=b) (ρ:=ρ) (n:=1) (by rw [q];exact fun z=>by cases z)
     rw [h,q] at this;cases this
    | ok f=>
     have again:∀ ρ2,(f=.nx ρ2∨f=.ctn ρ2)->eV t b ρ2=.no:=by
      intro ρ2 hf
      by_cases h2:eV t b ρ2=.no
      ·exact h2
      ·exfalso
       obtain ⟨n,e⟩:=mQ h2
       have q:wh t b (n+1) ρ=wh t b n ρ2:=by
        rw [wh,ht]
        simp only [Res.bind,if_true,hb]
        rcases hf with rfl | rfl<;>rfl
       have h3:wh t b (n+1) ρ≠.no:=by rw [q,<-e];exact h2
       have:=fW h3
       rw [h] at this
       exact h3 this.symm
     cases f with
     | nx ρ2=>exact (again ρ2 (.inl rfl)).symm
     | ctn ρ2=>exact (again ρ2 (.inr rfl)).symm
     | brk ρ2=>
      exfalso
      have q:wh t b 1 ρ=.ok (.nx ρ2):=by rw [wh,ht];simp [Res.bind,hb]
      have:=fW (t:=t) (b:=b) (ρ:=ρ) (n:=1) (by rw [q];exact fun z=>by cases z)
      rw [h,q] at this;cases this
     | ret r=>
      exfalso
      have q:wh t b 1 ρ=.ok (.ret r):=by rw [wh,ht];simp [Res.bind,hb]
      have:=fW (t:=t) (b:=b) (ρ:=ρ) (n:=1) (by rw [q];exact fun z=>by cases z)
      rw [h,q] at this;cases this
 ·obtain ⟨n,e⟩:=mQ h
  cases n with
  | zero=>rw [e] at h;exact absurd rfl h
  | succ n=>rw [e];exact key n (by rw [<-e];exact h)
def zIH (f:Fv) (g:Ev) (ρ:Rho):Res (List D):=(f ρ).bind fun ds=>(g ρ).bind fun d=>match d with
 | .int k=>if 0<=k/\k < 2^62/\ds.length * k.toNat<=16777216 then .ok (List.replicate k.toNat ds).flatten else .no
 | _=>.no
def oW (_ρ:Rho):Res Bool:=.ok true
def iI (t:Tv) (f:Ev) (ρ:Rho):List D->Res (List D)
 | []=>.ok []
 | d::ds=>(noErr (t (ρ++[.val d]))).bind fun c=>if c=true then (noErr (f (ρ++[.val d]))).bind fun e=>(iI t f ρ ds).bind fun es=>.ok (e::es) else iI t f ρ ds
def mI (it:Fv) (t:Tv) (f:Ev) (ρ:Rho):Res (List D):=(it ρ).bind fun ds=>if ds.length<=16777215 then iI t f ρ ds else .no
def start (n:Nat) (ds:List D):Rho:=ds.map Sl.val++List.replicate (n - ds.length) .un
def fin:Fl->Res Rt
 | .nx _=>.ok (.v .non)
 | .ret r=>.ok r
 | .brk _=>.no
 | .ctn _=>.no
def fn (p n:Nat) (b:Sv) (ds:List D):Res Rt:=if ds.length=p then (b (start n ds)).bind fin else .no
def zMl (e:Ev) (ρ:Rho):Res (List D):=(e ρ).bind fun d=>match d with
 | .tup ds=>.ok ds.reverse
 | _=>.no
def zFY:D->Option (List D)
 | .lst ds=>some ds
 | .tup ds=>some ds
 | _=>none
def mT:List D->List D->List D
 | a::r,b::q=>.tup [a,b]::mT r q
 | _,_=>[]
def zJX (a:Fv) (ρ:Rho):Res (List D):=(a ρ).bind fun ds=>match ds with
 | [x,y]=>match zFY x,zFY y with
  | some xs,some ys=>.ok (mT xs ys)
  | _,_=>.no
 | _=>.no
def fB (f:Ev) (ρ:Rho):List D->Res (List D)
 | []=>.ok []
 | .tup [a,b]::ds=>(noErr (f (ρ++[.val a,.val b]))).bind fun e=>(fB f ρ ds).bind fun es=>.ok (e::es)
 | _::_=>.no
def sQ (it:Fv) (f:Ev) (ρ:Rho):Res (List D):=(it ρ).bind fun ds=>if ds.length<=16777215 then fB f ρ ds else .no
def zOv:D->Option Str
 | .str x=>some x
 | .int i=>if i.natAbs.log2 < 1920 then some (toString i) else none
 | _=>none
def zOs:Str->List D->Option Str
 | a,[]=>some a
 | a,d::r=>match zOv d with
  | some x=>if x.length<=sizeLine/\(a++x).length<=sizeLine then zOs (a++x) r else none
  | none=>none
def qG:List D->Option (List Int)
 | []=>some []
 | .int i::ds=>match qG ds with
  | some ns=>some (i::ns)
  | none=>none
 | _::_=>none
def zBj:List D->Res D
 | [.lst ds]=>(match qG ds with
  | some ns=>.ok (.int ns.sum)
  | none=>.no)
 | [.tup ds]=>(match qG ds with
  | some ns=>.ok (.int ns.sum)
  | none=>.no)
 | _=>.no
def chO:Option Nat->Res D
 | some c=>.ok (.str ⟨#[c]⟩)
 | none=>.no
def slS (l u:Option Int):D->Res D
 | .str x=>if x.length<=sizeLine then .ok (.str (Txt.slice x l u)) else .no
 | _=>.no
def pI (T:List (Str×Str)):D->Res D
 | .str x=>.ok (.bl (!(T.lookup x).isSome))
 | _=>.no
def zJW:Option Str->Res D
 | some y=>.ok (.str y)
 | none=>.no
def rY (T:List (Str×Str)):D->Res D
 | .str x=>zJW (T.lookup x)
 | _=>.no
end L3
namespace L3
open PySem
end L3
namespace L3
open PySem
def fU (kz:List Int) (π:List Nat):Prop:=π.Perm (List.range kz.length)/\π.Pairwise (fun i j=>kz.getD i 0<=kz.getD j 0)
def zFX (b:Int):D->Res Int
 | .tup [.int t,.int d]=>if kB d && iV t (b.fdiv d) then .ok (t * b.fdiv d) else .no
 | _=>.no
def lV (b:Int):List D->Res (List Int)
 | []=>.ok []
 | d::r=>(zFX b d).bind fun k=>(lV b r).bind fun ks=>.ok (k::ks)
def iU (π:List Nat):List D:=π.map fun i:Nat=>D.int (i:Int)
theorem zIW {b k:Int} {d:D} (h:zFX b d=.ok k):∃ t c,d=.tup [.int t,.int c]/\kB c=true/\iV t (b.fdiv c)=true/\k=t * b.fdiv c:=by
 unfold zFX at h
 split at h
 ·rename_i t c
  split at h
  ·rename_i hc
   rw [Bool.and_eq_true] at hc
   cases h
   exact ⟨t,c,rfl,hc.1,hc.2,rfl⟩
  ·cases h
 ·cases h
theorem xI {b:Int}:∀ {rows:List D} {kz:List Int},lV b rows=.ok kz->kz.length=rows.length/\∀ (j:Nat) (k:Int),kz[j]?=some k->∃ d,rows[j]?=some d/\zFX b d=.ok k
 | [],kz,h=>by cases h;exact ⟨rfl,fun j k z=>by simp at z⟩
 | d::r,kz,h=>by
  unfold lV at h
  cases e:zFX b d with
  | no=>rw [e] at h;cases h
  | err c=>rw [e] at h;cases h
  | ok k0=>
   rw [e] at h
   have h':(lV b r).bind (fun ks=>Res.ok (k0::ks))=.ok kz:=h
   cases e2:lV b r with
   | no=>rw [e2] at h';cases h'
   | err c=>rw [e2] at h';cases h'
   | ok ks=>
    rw [e2] at h'
    cases h'
    obtain ⟨h1,h2⟩:=xI e2
    refine ⟨by rw [List.length_cons,List.length_cons,h1],fun j k z=>?_⟩
    cases j with
    | zero=>simp at z;subst z;exact ⟨d,rfl,e⟩
    | succ j=>exact h2 j k (by simpa using z)
def zBV (ρ:Rho):Res (List Int):=match ρ[0]?,ρ[1]? with
 | some (Sl.val (.lst rows)),some (Sl.val (.int b))=>if rows.length < 64 then lV b rows else .no
 | _,_=>.no
def vZ (sa sb:Sv) (ds:List D):Res (List Int):=if ds.length=1 then (match sa (L3.start 3 ds) with
 | .ok (.nx ρ)=>(match sb ρ with
  | .ok (.nx ρ')=>zBV ρ'
  | _=>.no)
 | _=>.no) else .no
theorem zCa {b:Int}:∀ {rows:List D} {c:Str},lV b rows≠.err c
 | [],c,h=>by cases h
 | d::r,c,h=>by
  unfold lV at h
  have k0:∀ c,zFX b d≠.err c:=fun c z=>by
   unfold zFX at z
   split at z
   ·split at z<;>cases z
   ·cases z
  cases e:zFX b d with
  | no=>rw [e] at h;cases h
  | err c'=>exact k0 _ e
  | ok k=>
   rw [e] at h
   have h':(lV b r).bind (fun ks=>Res.ok (k::ks))=.err c:=h
   cases e2:lV b r with
   | no=>rw [e2] at h';cases h'
   | err c'=>exact zCa e2
   | ok ks=>rw [e2] at h';cases h'
theorem zKG {sa sb:Sv} (ds:List D) (c:Str):vZ sa sb ds≠.err c:=fun h=>by
 unfold vZ zBV at h
 split at h
 ·split at h
  ·split at h
   ·split at h
    ·split at h
     ·exact zCa h
     ·cases h
    ·cases h
   ·cases h
  ·cases h
 ·cases h
theorem zHV {sa sb:Sv} (ds:List D) (h:vZ sa sb ds≠.no):ds.length=1:=by
 unfold vZ at h
 split at h
 ·assumption
 ·exact absurd rfl h
open Classical in
def mF (kz:List Int) (F:List Nat->Res Fl):Res Fl:=if h:∃ x,∀ π,fU kz π->F π=x then h.choose else .no
theorem zDu {kz:List Int} {F:List Nat->Res Fl} {π:List Nat} (h:mF kz F≠.no) (hπ:fU kz π):F π=mF kz F:=by
 unfold mF at h ⊢
 split at h
 ·rename_i z;rw [dif_pos z];exact z.choose_spec π hπ
 ·exact absurd rfl h
theorem zDg {kz:List Int} {F:List Nat->Res Fl} {x:Res Fl} {π:List Nat} (hπ:fU kz π) (h:∀ π,fU kz π->F π=x):mF kz F=x:=by
 have z:∃ x,∀ π,fU kz π->F π=x:=⟨x,h⟩
 unfold mF
 rw [dif_pos z,<-z.choose_spec π hπ]
 exact h π hπ
def zFC (fs:Fv) (kf:List D->Res (List Int)) (g:Gv) (b r:Sv):Sv:=fun ρ=>((fs ρ).bind kf).bind fun kz=>mF kz fun π=>bJ (fun ρ=>dY g b (iU π) ρ) r ρ
end L3
namespace L3
open PySem
end L3
namespace L3
open PySem
abbrev Tri:=D×List D×List D
end L3
namespace L3
open PySem
def zGw (e:Ev):Fv:=fun ρ=>(e ρ).bind fun d=>match d with
 | .lst ds=>.ok ds.reverse
 | _=>.no
def zNr:D->Res (List D)
 | .lst ds=>.ok ds.reverse
 | _=>.no
theorem revL_l {ds:List D}:zNr (.lst ds)=.ok ds.reverse:=rfl
theorem iRevL_at {e:Ev} {ρ:Rho}:zGw e ρ=(e ρ).bind zNr:=by
 unfold zGw
 congr
end L3
namespace Fq
theorem zBJ {a b:Int} (ha:0<=a) (hb:0 < b):Int.gcd b (a % b)=Int.gcd a b:=by
 obtain ⟨m,rfl⟩:=Int.eq_ofNat_of_zero_le ha
 obtain ⟨n,rfl⟩:=Int.eq_ofNat_of_zero_le (Int.le_of_lt hb)
 show Nat.gcd n (m % n)=Nat.gcd m n
 rw [Nat.gcd_comm n (m % n),Nat.gcd_comm m n,Nat.gcd_rec n m]
def dv (t b:Int):Int:=if b < 0 then -(Int.gcd t b:Int) else (Int.gcd t b:Int)
theorem zIm {t b:Int} (hb:b≠0):0 < (Int.gcd t b:Int):=by
 have h:Int.gcd t b≠0:=fun h=>hb (Int.gcd_eq_zero_iff.mp h).2
 omega
theorem zLz {t b:Int} (hb:b≠0):dv t b≠0:=by
 have:=zIm (t:=t) hb
 unfold dv;split<;>omega
theorem wW (t b:Int):dv t b ∣ t:=by
 unfold dv;split
 ·exact Int.neg_dvd.mpr (Int.gcd_dvd_left ..)
 ·exact Int.gcd_dvd_left ..
theorem zCc (t b:Int):dv t b ∣ b:=by
 unfold dv;split
 ·exact Int.neg_dvd.mpr (Int.gcd_dvd_right ..)
 ·exact Int.gcd_dvd_right ..
theorem mW {t d:Int} (h:d ∣ t):t.fdiv d=t / d:=by
 rw [Int.fdiv_eq_ediv]
 simp [h]
theorem uW {t b:Int} (hb:b≠0):t.fdiv (dv t b)=(Rat.divInt t b).num:=by
 rw [mW (wW t b),Rat.num_divInt,Int.gcd_comm b t]
 unfold dv
 rcases Int.lt_trichotomy b 0 with h | h | h
 ·rw [if_pos h,Int.sign_eq_neg_one_of_neg h,Int.ediv_neg]
  have:(-1:Int) * t=-t:=by omega
  rw [this,Int.neg_ediv_of_dvd (Int.gcd_dvd_left ..)]
 ·exact absurd h hb
 ·rw [if_neg (by omega),Int.sign_eq_one_of_pos h,Int.one_mul]
theorem uP {t b:Int} (hb:b≠0):b.fdiv (dv t b)=((Rat.divInt t b).den:Int):=by
 rw [mW (zCc t b),Rat.den_divInt,if_neg hb,Int.gcd_comm b t]
 unfold dv
 rcases Int.lt_trichotomy b 0 with h | h | h
 ·rw [if_pos h,Int.ediv_neg,Int.natCast_ediv]
  have e:((b.natAbs:Nat):Int)=-b:=by omega
  rw [e,Int.neg_ediv_of_dvd (Int.gcd_dvd_right ..)]
 ·exact absurd h hb
 ·rw [if_neg (by omega),Int.natCast_ediv]
  have e:((b.natAbs:Nat):Int)=b:=by omega
  rw [e]
theorem dJ (q:Rat):(q.den:Int)≠0:=by have:=q.den_nz;omega
theorem jH (q:Rat):(0:Int) < (q.den:Int):=by have:=q.den_nz;omega
theorem zDY (p q:Rat):Rat.divInt (p.num * q.den+q.num * p.den) (p.den * q.den)=p+q:=by
 rw [<-Rat.divInt_add_divInt _ _ (dJ p) (dJ q),Rat.num_divInt_den,Rat.num_divInt_den]
theorem zDA (p q:Rat):Rat.divInt (p.num * q.den - q.num * p.den) (p.den * q.den)=p - q:=by
 rw [<-Rat.divInt_sub_divInt _ _ (dJ p) (dJ q),Rat.num_divInt_den,Rat.num_divInt_den]
theorem zEf (p q:Rat):Rat.divInt (p.num * q.num) (p.den * q.den)=p * q:=by
 rw [<-Rat.divInt_mul_divInt,Rat.num_divInt_den,Rat.num_divInt_den]
theorem zFN (p q:Rat):Rat.divInt (p.num * q.den) (p.den * q.num)=p / q:=by
 rw [<-Rat.divInt_mul_divInt,Rat.num_divInt_den,Rat.div_def,Rat.inv_def]
theorem zDX {q:Rat}:q.num≠0 ↔ q≠0:=by
 constructor
 ·intro h e;exact h (by rw [e];rfl)
 ·intro h e;exact h (Rat.num_eq_zero.mp e)
def Sz (n:Nat) (q:Rat):Prop:=q.num.natAbs < 2^n/\q.den < 2^n
theorem Sz.mono {m n:Nat} {q:Rat} (h:Sz m q) (l:m<=n):Sz n q:=
 ⟨Nat.lt_of_lt_of_le h.1 (Nat.pow_le_pow_right (by decide) l),Nat.lt_of_lt_of_le h.2 (Nat.pow_le_pow_right (by decide) l)⟩
theorem zKP {t b:Int} (hb:b≠0):(Rat.divInt t b).num.natAbs<=t.natAbs:=by
 rw [<-uW hb,mW (wW t b),Int.natAbs_ediv_of_dvd (wW t b)]
 exact Nat.div_le_self ..
theorem zBP {t b:Int} (hb:b≠0):(Rat.divInt t b).den<=b.natAbs:=by
 rw [Rat.den_divInt,if_neg hb]
 exact Nat.div_le_self ..
theorem Sz.of {n:Nat} {t b:Int} (hb:b≠0) (ht:t.natAbs < 2^n) (h:b.natAbs < 2^n):Sz n (Rat.divInt t b):=
 ⟨Nat.lt_of_le_of_lt (zKP hb) ht,Nat.lt_of_le_of_lt (zBP hb) h⟩
theorem dX {a b:Int} {m n:Nat} (ha:a.natAbs < 2^m) (hb:b.natAbs < 2^n):(a * b).natAbs < 2^(m+n):=by
 rw [Int.natAbs_mul,Nat.pow_add]
 exact Nat.mul_lt_mul'' ha hb
theorem zKa {a b:Int} {m:Nat} (ha:a.natAbs < 2^m) (hb:b.natAbs < 2^m):(a+b).natAbs < 2^(m+1):=by
 rw [Nat.pow_succ];omega
theorem zLj {a b:Int} {m:Nat} (ha:a.natAbs < 2^m) (hb:b.natAbs < 2^m):(a - b).natAbs < 2^(m+1):=by
 rw [Nat.pow_succ];omega
theorem Sz.d {n:Nat} {q:Rat} (h:Sz n q):((q.den:Int)).natAbs < 2^n:=h.2
theorem Sz.add {m n:Nat} {p q:Rat} (hp:Sz m p) (hq:Sz n q):Sz (m+n+1) (p+q):=by
 rw [<-zDY]
 refine Sz.of (by have:=jH p;have:=jH q;exact Int.mul_ne_zero (dJ p) (dJ q)) (zKa (dX hp.1 hq.d) ?_) ?_
 ·rw [Nat.add_comm m n];exact dX hq.1 hp.d
 ·exact Nat.lt_of_lt_of_le (dX hp.d hq.d) (Nat.pow_le_pow_right (by decide) (by omega))
theorem Sz.sub {m n:Nat} {p q:Rat} (hp:Sz m p) (hq:Sz n q):Sz (m+n+1) (p - q):=by
 rw [<-zDA]
 refine Sz.of (Int.mul_ne_zero (dJ p) (dJ q)) (zLj (dX hp.1 hq.d) ?_) ?_
 ·rw [Nat.add_comm m n];exact dX hq.1 hp.d
 ·exact Nat.lt_of_lt_of_le (dX hp.d hq.d) (Nat.pow_le_pow_right (by decide) (by omega))
theorem Sz.mul {m n:Nat} {p q:Rat} (hp:Sz m p) (hq:Sz n q):Sz (m+n) (p * q):=by
 rw [<-zEf]
 exact Sz.of (Int.mul_ne_zero (dJ p) (dJ q)) (dX hp.1 hq.1) (dX hp.d hq.d)
theorem Sz.div {m n:Nat} {p q:Rat} (hp:Sz m p) (hq:Sz n q) (h:q≠0):Sz (m+n) (p / q):=by
 rw [<-zFN]
 exact Sz.of (Int.mul_ne_zero (dJ p) (zDX.mpr h)) (dX hp.1 hq.d) (dX hp.d hq.1)
theorem zCn {q:Rat} (h:0 < q):0 < q.num:=by
 have:=Rat.num_nonneg.mpr (Rat.le_of_lt h)
 have h2:q.num≠0:=zDX.mpr (by intro z;rw [z] at h;exact absurd h (by decide))
 omega
theorem zEZ {q:Rat} (h:0 < q):q⁻¹.num=q.den:=by
 rw [Rat.num_inv,Int.sign_eq_one_of_pos (zCn h),Int.one_mul]
theorem zFS {q:Rat} (h:0 < q):(q⁻¹.den:Int)=q.num:=by
 have:=zCn h
 rw [Rat.den_inv,if_neg (by omega)]
 omega
theorem Sz.inv {n:Nat} {q:Rat} (h:Sz n q) (h0:0 < q):Sz n q⁻¹:=by
 refine ⟨by rw [zEZ h0];exact h.2,?_⟩
 have h1:=h.1
 have:=zFS h0
 omega
end Fq
namespace Fr
open L3 PySem Fq
theorem zHp {t:Tv} {b:Sv} {ρ:Rho} (P:Rho->Prop) (μ:Rho->Nat) (Q:Res Fl->Prop) (h0:P ρ)
  (step:∀ ρ,P ρ->(t ρ=.ok false/\Q (.ok (.nx ρ)))∨(t ρ=.ok true/\∃ ρ',b ρ=.ok (.nx ρ')/\P ρ'/\μ ρ' < μ ρ)):Q (eV t b ρ):=by
 have main:∀ n ρ,μ ρ<=n->P ρ->Q (eV t b ρ):=by
  intro n
  induction n with
  | zero=>
   intro ρ hn hp
   rw [yX]
   rcases step ρ hp with ⟨h1,h2⟩ | ⟨h1,ρ',h2,h3,h4⟩
   ·rw [h1];exact h2
   ·omega
  | succ n ih=>
   intro ρ hn hp
   rw [yX]
   rcases step ρ hp with ⟨h1,h2⟩ | ⟨h1,ρ',h2,h3,h4⟩
   ·rw [h1];exact h2
   ·rw [h1]
    simp only [Res.bind,if_true,h2]
    exact ih ρ' (by omega) h3
 exact main _ ρ (Nat.le_refl _) h0
theorem zBW {g:Gv} {b:Sv} (P:Nat->Rho->Prop):∀ (ds:List D) (k:Nat) (ρ:Rho),P k ρ->
  (∀ i d ρ,ds[i]?=some d->P (k+i) ρ->∃ ρ1 ρ2,g d ρ=.ok ρ1/\(b ρ1=.ok (.nx ρ2)∨b ρ1=.ok (.ctn ρ2))/\P (k+i+1) ρ2)->∃ ρ',dY g b ds ρ=.ok (.nx ρ')/\P (k+ds.length) ρ'
 | [],k,ρ,h,_=>⟨ρ,rfl,h⟩
 | d::ds,k,ρ,h,st=>by
  obtain ⟨ρ1,ρ2,h1,h2,h3⟩:=st 0 d ρ rfl h
  obtain ⟨ρ',e,hp⟩:=zBW P ds (k+1) ρ2 h3 fun i d' ρ' hd hp=>by
   have:=st (i+1) d' ρ' (by simpa using hd) (by rw [show k+(i+1)=k+1+i by omega];exact hp)
   rw [show k+(i+1)=k+1+i by omega] at this
   exact this
  refine ⟨ρ',?_,by rw [List.length_cons,show k+(ds.length+1)=k+1+ds.length by omega];exact hp⟩
  rw [dY,h1]
  simp only [Res.bind]
  rcases h2 with h2 | h2<;>(rw [h2];exact e)
theorem zEO {i:Int} {m:Nat} (h:i.natAbs < 2^m):nb i<=m+1:=zMY (Nat.lt_of_lt_of_le h (Nat.pow_le_pow_right (by decide) (by omega))) (by omega)
theorem bK {i j:Int} {m n:Nat} (hi:i.natAbs < 2^m) (hj:j.natAbs < 2^n) (h:m+n<=100000000):iV i j=true:=by
 unfold iV
 have h1:=zEO hi
 have h2:=zEO hj
 rw [Bool.or_eq_true]
 exact .inr (decide_eq_true (by omega))
theorem zJT {i j:Int} (h1:-(2^64) < j) (h2:j < 2^64):iV i j=true:=by
 unfold iV
 rw [Bool.or_eq_true,Bool.or_eq_true]
 exact .inl (.inr (by rw [decide_eq_true h1,decide_eq_true h2];rfl))
theorem zJg {i j:Int} (h1:-(2^64) < i) (h2:i < 2^64):iV i j=true:=by
 unfold iV
 rw [Bool.or_eq_true,Bool.or_eq_true]
 exact .inl (.inl (by rw [decide_eq_true h1,decide_eq_true h2];rfl))
theorem qT {j:Int} {m:Nat} (h0:j≠0) (hj:j.natAbs < 2^m) (h:m<=8999):kB j=true:=by
 unfold kB
 have h1:=zEO hj
 rw [decide_eq_true h0,decide_eq_true (show nb j<=9000 by omega)]
 rfl
theorem okDiv_lit {j:Int} (h0:0 < j) (h:j < 1000000000000000000):kB j=true:=qT (m:=64) (by omega) (by omega) (by decide)
theorem okMul_litr {i j:Int} (h1:-1000000000000000000 < j) (h2:j < 1000000000000000000):iV i j=true:=zJT (by omega) (by omega)
theorem okMul_litl {i j:Int} (h1:-1000000000000000000 < i) (h2:i < 1000000000000000000):iV i j=true:=zJg (by omega) (by omega)
theorem p10 (n:Nat):(0:Int) < 10^n:=Int.pow_pos (by decide)
theorem p10ne (n:Nat):((10:Int)^n=0)=False:=eq_false (by have:=p10 n;omega)
theorem p10pos2 (n:Nat):(0:Int) < 2 * 10^n:=by have:=p10 n;omega
theorem p10ne2 (n:Nat):((2:Int) * 10^n=0)=False:=eq_false (by have:=p10 n;omega)
theorem okp9:qE 10 9=true:=by decide
theorem okp30:qE 10 30=true:=by decide
def dq (q:Rat):D:=.tup [.int q.num,.int (q.den:Int)]
def dp (p:Rat×Rat):D:=.tup [dq p.1,dq p.2]
theorem eq_dq (p q:Rat):eqD (dq p) (dq q)=decide (p=q):=by
 show ((p.num==q.num) && (((p.den:Int)==(q.den:Int)) && true))=decide (p=q)
 by_cases h:p=q
 ·subst h;simp
 ·rw [decide_eq_false h]
  by_cases h1:p.num=q.num
  ·have h2:p.den≠q.den:=fun e=>h (Rat.ext h1 e)
   have:((p.den:Int)==(q.den:Int))=false:=by simp;omega
   rw [this];simp
  ·simp [h1]
theorem dep_dq (q:Rat):dep (dq q)=1:=rfl
theorem ix_dq0 (q:Rat):oIx (dq q) (.int 0)=.ok (.int q.num):=rfl
theorem ix_dq1 (q:Rat):oIx (dq q) (.int 1)=.ok (.int (q.den:Int)):=rfl
theorem ty_dq (q:Rat):tyN (dq q) = "tuple" := rfl
theorem len_dq (q:Rat):nA [dq q]=.ok (.int 2):=rfl
theorem oEq_dq (p q:Rat):oEq (dq p) (dq q)=.ok (.bl (decide (p=q))):=by
 rw [<-eq_dq];rfl
theorem oNe_dq (p q:Rat):oNe (dq p) (dq q)=.ok (.bl (!decide (p=q))):=by
 rw [<-eq_dq];rfl
theorem noL_dq (q:Rat):noL (dq q)=true:=rfl
theorem zLH (p q:Rat×Rat):eqD (dp p) (dp q)=decide (p=q):=by
 show (eqD (dq p.1) (dq q.1) && (eqD (dq p.2) (dq q.2) && true))=decide (p=q)
 rw [eq_dq,eq_dq]
 obtain ⟨a,b⟩:=p
 obtain ⟨c,d⟩:=q
 simp
theorem dp_mk (a b:Rat):(.tup [dq a,dq b]:D)=dp (a,b):=rfl
theorem ix_dp0 (p:Rat×Rat):oIx (dp p) (.int 0)=.ok (dq p.1):=rfl
theorem ix_dp1 (p:Rat×Rat):oIx (dp p) (.int 1)=.ok (dq p.2):=rfl
theorem ty_dp (p:Rat×Rat):tyN (dp p) = "tuple" := rfl
theorem len_dp (p:Rat×Rat):nA [dp p]=.ok (.int 2):=rfl
theorem dep_dp (p:Rat×Rat):dep (dp p)=2:=rfl
theorem noL_dp (p:Rat×Rat):noL (dp p)=true:=rfl
theorem oEq_dp (p q:Rat×Rat):oEq (dp p) (dp q)=.ok (.bl (decide (p=q))):=by
 rw [<-zLH];rfl
theorem oNe_dp (p q:Rat×Rat):oNe (dp p) (dp q)=.ok (.bl (!decide (p=q))):=by
 rw [<-zLH];rfl
theorem zLw {q:Rat} (h:0 < q):(.tup [.int (q.den:Int),.int q.num]:D)=dq q⁻¹:=by
 unfold dq
 rw [Fq.zEZ h,Fq.zFS h]
theorem fdiv_pos (a:Int) {b:Int} (h:0 < b):a.fdiv b=a / b:=Int.fdiv_eq_ediv_of_nonneg a (by omega)
theorem fmod_pos (a:Int) {b:Int} (h:0 < b):a.fmod b=a % b:=Int.fmod_eq_emod_of_nonneg a (by omega)
theorem zJE (a:Int) {b:Int} (h:0<=b):a.fdiv b=a / b:=Int.fdiv_eq_ediv_of_nonneg a h
theorem zBs (a:Int) {b:Int} (h:0<=b):a.fmod b=a % b:=Int.fmod_eq_emod_of_nonneg a h
theorem noLs_dps:∀ l:List (Rat×Rat),noLs (l.map dp)=true
 | []=>rfl
 | q::l=>by rw [List.map_cons,noLs,noL_dp,noLs_dps l];rfl
theorem zDf {α:Type} {l:List α} {i:Nat} {a:α} (h:l[i]?=some a):l.take (i+1)=l.take i++[a]:=by rw [List.take_succ,h];rfl
theorem zKJ {b:Int} (h:0 < b):(.tup [.int 1,.int b]:D)=dq (Rat.divInt 1 b):=by
 have hb:b≠0:=by omega
 have e:Fq.dv 1 b=1:=by unfold Fq.dv;rw [if_neg (by omega)];simp
 unfold dq
 rw [<-Fq.uW hb,<-Fq.uP hb,e]
 simp
theorem zKj (k:Int):(.tup [.int k,.int 1]:D)=dq (k:Rat):=rfl
end Fr
namespace L3
open PySem
def zHF (b:Sv):Fl->Res Fl
 | .nx ρ=>b ρ
 | .ret r=>.ok (.ret r)
 | .brk ρ=>.ok (.brk ρ)
 | .ctn ρ=>.ok (.ctn ρ)
theorem sSeq_at {a b:Sv} {ρ:Rho}:bJ a b ρ=(a ρ).bind (zHF b):=by
 unfold bJ;congr;funext f;cases f<;>rfl
def ifF (a b:Sv) (ρ:Rho):Bool->Res Fl
 | true=>a ρ
 | false=>b ρ
theorem sIf_at {t:Tv} {a b:Sv} {ρ:Rho}:sIf t a b ρ=(t ρ).bind (ifF a b ρ):=by
 unfold sIf;congr;funext c;cases c<;>rfl
def zMn (a b:Ev) (ρ:Rho):Bool->Res D
 | true=>a ρ
 | false=>b ρ
theorem eIf_at {t:Tv} {a b:Ev} {ρ:Rho}:eIf t a b ρ=(t ρ).bind (zMn a b ρ):=by
 unfold eIf;congr;funext c;cases c<;>rfl
def zMH (b:Ev) (ρ:Rho):D->Res D
 | .bl true=>b ρ
 | .bl false=>.ok (.bl false)
 | _=>.no
theorem eAnd_at {a b:Ev} {ρ:Rho}:zNt a b ρ=(a ρ).bind (zMH b ρ):=by
 unfold zNt;congr;funext c;cases c<;>try rfl
 rename_i c;cases c<;>rfl
def orF (b:Ev) (ρ:Rho):D->Res D
 | .bl true=>.ok (.bl true)
 | .bl false=>b ρ
 | _=>.no
theorem eOr_at {a b:Ev} {ρ:Rho}:eOr a b ρ=(a ρ).bind (orF b ρ):=by
 unfold eOr;congr;funext c;cases c<;>try rfl
 rename_i c;cases c<;>rfl
def opF (o:Op2) (b:Ev) (ρ:Rho) (x:D):Res D:=(b ρ).bind (o x)
theorem eOp_at {o:Op2} {a b:Ev} {ρ:Rho}:eOp o a b ρ=(a ρ).bind (opF o b ρ):=rfl
def consG (d:D) (ds:List D):Res (List D):=.ok (d::ds)
def consF (r:Fv) (ρ:Rho) (d:D):Res (List D):=(r ρ).bind (consG d)
theorem aCons_at {e:Ev} {r:Fv} {ρ:Rho}:aE e r ρ=(e ρ).bind (consF r ρ):=rfl
def tupF (ds:List D):Res D:=if ds.length<=16777216 then .ok (.tup ds) else .no
theorem eTup_at {a:Fv} {ρ:Rho}:zFb a ρ=(a ρ).bind tupF:=rfl
def rtF (r:Rt):Res D:=.ok r.d
def callF (m:Mir) (ds:List D):Res D:=(m ds).bind rtF
theorem eCall_at {m:Mir} {a:Fv} {ρ:Rho}:aW m a ρ=(a ρ).bind (callF m):=rfl
def isTF (T:String) (d:D):Res D:=.ok (.bl (isT T d))
theorem eIsT_at {T:String} {a:Ev} {ρ:Rho}:zOx T a ρ=(a ρ).bind (isTF T):=rfl
def frzF (d:D):Res D:=if noL d=true then .ok d else .no
theorem eFrz_at {e:Ev} {ρ:Rho}:zMk e ρ=(e (ρ.map Sl.frz)).bind frzF:=rfl
def fLstF (ds:List D):Res (List D):=if ds.length<=16777216 then .ok ds else .no
theorem fLst_at {a:Fv} {ρ:Rho}:jX a ρ=(a ρ).bind fLstF:=rfl
def rtFF:Rt->Res (List D)
 | .f ds=>.ok ds
 | .v _=>.no
def fcallF (m:Mir) (ds:List D):Res (List D):=(m ds).bind rtFF
theorem fCall_at {m:Mir} {a:Fv} {ρ:Rho}:eZ m a ρ=(a ρ).bind (fcallF m):=by
 unfold eZ fcallF;congr
def zEE:List D->Res (List D)
 | [.lst ds]=>.ok ds
 | [.tup ds]=>.ok ds
 | _=>.no
theorem fListF_l {ds:List D}:zEE [.lst ds]=.ok ds:=rfl
theorem fListF_t {ds:List D}:zEE [.tup ds]=.ok ds:=rfl
theorem fList_at {a:Fv} {ρ:Rho}:zE a ρ=(a ρ).bind zEE:=rfl
def catG (x y:D):Res (List D):=match x,y with
 | .lst ds,.lst es=>if ds.length+es.length<=16777216 then .ok (ds++es) else .no
 | _,_=>.no
def catF (b:Ev) (ρ:Rho) (x:D):Res (List D):=(b ρ).bind (catG x)
theorem fCat_at {a b:Ev} {ρ:Rho}:zEA a b ρ=(a ρ).bind (catF b ρ):=rfl
def efF (ds:List D):Res D:=.ok (.lst ds)
theorem eF_at {f:Fv} {ρ:Rho}:eF f ρ=(f ρ).bind efF:=rfl
def oSF:D->Res (Option Int)
 | .int i=>.ok (some i)
 | _=>.no
theorem oS_at {e:Ev} {ρ:Rho}:oS e ρ=(e ρ).bind oSF:=by
 unfold oS;congr
def fSlH (x:D) (l h:Option Int):Res (List D):=match x with
 | .lst ds=>.ok (iP ds l h)
 | _=>.no
def fSlG (hi:Ov) (ρ:Rho) (x:D) (l:Option Int):Res (List D):=(hi ρ).bind (fSlH x l)
def fSlF (lo hi:Ov) (ρ:Rho) (x:D):Res (List D):=(lo ρ).bind (fSlG hi ρ x)
theorem fSl_at {a:Ev} {lo hi:Ov} {ρ:Rho}:fSl a lo hi ρ=(a ρ).bind (fSlF lo hi ρ):=rfl
def zOA (x:D) (l h:Option Int):Res D:=match x with
 | .tup ds=>if (iP ds l h).length < ds.length then .ok (.tup (iP ds l h)) else .no
 | _=>.no
def blF:D->Res Bool
 | .bl b=>.ok b
 | _=>.no
theorem tVal_at {e:Ev} {ρ:Rho}:gF e ρ=(e ρ).bind blF:=by
 unfold gF;congr
def notF (b:Bool):Res Bool:=.ok (!b)
theorem tNotB_at {t:Tv} {ρ:Rho}:zGo t ρ=(t ρ).bind notF:=rfl
def zIp (u:Tv) (ρ:Rho):Bool->Res Bool
 | true=>u ρ
 | false=>.ok false
theorem tAndB_at {t u:Tv} {ρ:Rho}:zCR t u ρ=(t ρ).bind (zIp u ρ):=by
 unfold zCR;congr;funext c;cases c<;>rfl
def zMu (u:Tv) (ρ:Rho):Bool->Res Bool
 | true=>.ok true
 | false=>u ρ
theorem tOrB_at {t u:Tv} {ρ:Rho}:zMe t u ρ=(t ρ).bind (zMu u ρ):=by
 unfold zMe;congr;funext c;cases c<;>rfl
def setF (i:Nat) (ρ:Rho) (d:D):Res Fl:=.ok (.nx (ρ.set i (.val d)))
theorem sSet_at {i:Nat} {e:Ev} {ρ:Rho}:dM i e ρ=(e ρ).bind (setF i ρ):=rfl
def ownF (i:Nat) (ρ:Rho) (ds:List D):Res Fl:=.ok (.nx (ρ.set i (.own ds)))
theorem sOwn_at {i:Nat} {f:Fv} {ρ:Rho}:zFZ i f ρ=(f ρ).bind (ownF i ρ):=rfl
def dropF (ρ:Rho) (_d:D):Res Fl:=.ok (.nx ρ)
theorem sDrop_at {e:Ev} {ρ:Rho}:tO e ρ=(e ρ).bind (dropF ρ):=rfl
def retF (d:D):Res Fl:=.ok (.ret (.v d))
theorem sRet_at {e:Ev} {ρ:Rho}:jD e ρ=(e (ρ.map Sl.frz)).bind retF:=rfl
def retFF (ds:List D):Res Fl:=.ok (.ret (.f ds))
theorem sRetF_at {f:Fv} {ρ:Rho}:jK f ρ=(f (ρ.map Sl.frz)).bind retFF:=rfl
def raiseF (c:Str) (ds:List D):Res Fl:=if ds.length<=16777216 then .err c else .no
theorem sRaise_at {c:Str} {a:Fv} {ρ:Rho}:iZ c a ρ=(a ρ).bind (raiseF c):=rfl
def appF (i:Nat) (ρ:Rho) (ds:List D) (d:D):Res Fl:=if ds.length < 16777216 then .ok (.nx (ρ.set i (.own (ds++[d])))) else .no
def appS (i:Nat) (e:Ev) (ρ:Rho):Option Sl->Res Fl
 | some (.own ds)=>(e ρ).bind (appF i ρ ds)
 | _=>.no
theorem sApp_at {i:Nat} {e:Ev} {ρ:Rho}:zEJ i e ρ=appS i e ρ ρ[i]?:=by
 unfold zEJ appS;rfl
def augF (i:Nat) (ρ:Rho) (o:Op2) (x y:D):Res Fl:=(o x y).bind (setF i ρ)
def augS (i:Nat) (o:Op2) (e:Ev) (ρ:Rho):Option Sl->Res Fl
 | some (.val x)=>(e ρ).bind (augF i ρ o x)
 | _=>.no
theorem sAug_at {i:Nat} {o:Op2} {e:Ev} {ρ:Rho}:zHT i o e ρ=augS i o e ρ ρ[i]?:=by
 unfold zHT augS;rfl
def dropG (ρ:Rho) (_r:Rt):Res Fl:=.ok (.nx ρ)
def xdropF (m:Mir) (ρ:Rho) (ds:List D):Res Fl:=(m ds).bind (dropG ρ)
theorem xDrop_at {m:Mir} {a:Fv} {ρ:Rho}:zGC m a ρ=(noErr (a ρ)).bind (xdropF m ρ):=rfl
def setG (i:Nat) (ρ:Rho) (r:Rt):Res Fl:=.ok (.nx (ρ.set i (.val r.d)))
def zMo (i:Nat):Res Fl->Res Fl
 | .ok (.nx ρ')=>.ok (.nx (ρ'.set i .un))
 | _=>.no
def zLE (i:Nat) (h:Sv) (ρ:Rho) (c:Str):Bool->Res Fl
 | true=>zMo i (h (ρ.set i (.exc c)))
 | false=>.no
def zNg (tb:List Str) (i:Nat) (h:Sv) (ρ:Rho):Res Fl->Res Fl
 | .err c=>zLE i h ρ c (tb.contains c)
 | .ok f=>.ok f
 | .no=>.no
theorem sTry_at {tb:List Str} {i:Nat} {b h:Sv} {ρ:Rho}:zKC tb i b h ρ=zNg tb i h ρ (b ρ):=by
 unfold zKC
 cases b ρ with
 | ok f=>rfl
 | no=>rfl
 | err c=>
  show (if tb.contains c=true then _ else _)=zLE i h ρ c (tb.contains c)
  cases tb.contains c with
  | false=>rfl
  | true=>
   simp only [if_true,zLE]
   cases h (ρ.set i (.exc c)) with
   | ok f=>cases f<;>rfl
   | _=>rfl
def zCp (anc:List (Str×List Str)) (cs:List Str):Option Sl->Res D
 | some (.exc c)=>(match anc.lookup c with
  | some l=>.ok (.bl (cs.any fun x=>l.contains x))
  | none=>.no)
 | _=>.no
theorem eIsE_at {anc:List (Str×List Str)} {i:Nat} {cs:List Str} {ρ:Rho}:zHL anc i cs ρ=zCp anc cs ρ[i]?:=by
 unfold zHL zCp;rfl
def varS:Option Sl->Res D
 | some (.val d)=>.ok d
 | _=>.no
theorem eVar_at {i:Nat} {ρ:Rho}:aJ i ρ=varS ρ[i]?:=by
 unfold aJ varS;rfl
def retS:Option Sl->Res Fl
 | some (.own ds)=>.ok (.ret (.f ds))
 | _=>.no
theorem sRetOwn_at {i:Nat} {ρ:Rho}:iG i ρ=retS ρ[i]?:=by
 unfold iG retS;rfl
def nxF (ρ:Rho):Res Fl:=.ok (.nx ρ)
def unpF (g:Gv) (ρ:Rho) (d:D):Res Fl:=(g d ρ).bind nxF
theorem sUnp_at {g:Gv} {f:Ev} {ρ:Rho}:zOf g f ρ=(f ρ).bind (unpF g ρ):=rfl
def gtF (gs:List D->Rho->Res Rho) (ρ:Rho):D->Res Rho
 | .tup ds=>gs ds ρ
 | _=>.no
theorem gTup_at {gs:List D->Rho->Res Rho} {d:D} {ρ:Rho}:zKv gs d ρ=gtF gs ρ d:=by
 unfold zKv gtF;rfl
theorem gCons_at {g:Gv} {r:List D->Rho->Res Rho} {d:D} {ds:List D} {ρ:Rho}:zFH g r (d::ds) ρ=(g d ρ).bind (r ds):=rfl
theorem gNil_at {ρ:Rho}:zMf [] ρ=.ok ρ:=rfl
def forF (g:Gv) (b:Sv) (ρ:Rho) (ds:List D):Res Fl:=dY g b ds ρ
theorem sFor_at {it:Fv} {g:Gv} {b:Sv} {ρ:Rho}:zAC it g b ρ=(it ρ).bind (forF g b ρ):=rfl
def zHD:D->Res (List D)
 | .lst ds=>.ok ds
 | .tup ds=>.ok ds
 | _=>.no
theorem seqD_l {ds:List D}:zHD (.lst ds)=.ok ds:=rfl
theorem seqD_t {ds:List D}:zHD (.tup ds)=.ok ds:=rfl
theorem iSeq_at {e:Ev} {ρ:Rho}:wJ e ρ=(e ρ).bind zHD:=by
 unfold wJ;congr
def zKq:List D->Res (List D)
 | [.int j]=>if -(2^62)<=j/\j < 2^62 then .ok (rng 0 j.toNat 1) else .no
 | _=>.no
theorem iRng1_at {a:Fv} {ρ:Rho}:zAu a ρ=(a ρ).bind zKq:=rfl
def zLb:List D->Res (List D)
 | [.int i,.int j]=>if -(2^62)<=i/\i < 2^62/\-(2^62)<=j/\j < 2^62 then .ok (rng i (j - i).toNat 1) else .no
 | _=>.no
theorem iRng2_at {a:Fv} {ρ:Rho}:zDJ a ρ=(a ρ).bind zLb:=rfl
theorem fn_at {p n:Nat} {b:Sv} {ds:List D} (h:ds.length=p):fn p n b ds=(b (start n ds)).bind fin:=by
 unfold fn;rw [if_pos h]
theorem nr {α:Sort _} {a b:α} (h:a=b):a=b:=h
theorem okb {α β:Type} {a:α} {f:α->Res β}:(Res.ok a).bind f=f a:=nr rfl
theorem erb {α β:Type} {c:Str} {f:α->Res β}:(Res.err c).bind f=.err c:=nr rfl
theorem seqF_nx {b:Sv} {ρ:Rho}:zHF b (.nx ρ)=b ρ:=nr rfl
theorem seqF_ret {b:Sv} {r:Rt}:zHF b (.ret r)=.ok (.ret r):=nr rfl
theorem gtF_t {gs:List D->Rho->Res Rho} {ρ:Rho} {ds:List D}:gtF gs ρ (.tup ds)=gs ds ρ:=nr rfl
theorem ifF_t {a b:Sv} {ρ:Rho}:ifF a b ρ true=a ρ:=nr rfl
theorem ifF_f {a b:Sv} {ρ:Rho}:ifF a b ρ false=b ρ:=nr rfl
theorem eifF_t {a b:Ev} {ρ:Rho}:zMn a b ρ true=a ρ:=nr rfl
theorem eifF_f {a b:Ev} {ρ:Rho}:zMn a b ρ false=b ρ:=nr rfl
theorem andF_t {b:Ev} {ρ:Rho}:zMH b ρ (.bl true)=b ρ:=nr rfl
theorem andF_f {b:Ev} {ρ:Rho}:zMH b ρ (.bl false)=.ok (.bl false):=nr rfl
theorem orF_t {b:Ev} {ρ:Rho}:orF b ρ (.bl true)=.ok (.bl true):=nr rfl
theorem orF_f {b:Ev} {ρ:Rho}:orF b ρ (.bl false)=b ρ:=nr rfl
theorem tandF_t {u:Tv} {ρ:Rho}:zIp u ρ true=u ρ:=nr rfl
theorem tandF_f {u:Tv} {ρ:Rho}:zIp u ρ false=.ok false:=nr rfl
theorem torF_t {u:Tv} {ρ:Rho}:zMu u ρ true=.ok true:=nr rfl
theorem torF_f {u:Tv} {ρ:Rho}:zMu u ρ false=u ρ:=nr rfl
theorem tryE_t {i:Nat} {h:Sv} {ρ:Rho} {c:Str}:zLE i h ρ c true=zMo i (h (ρ.set i (.exc c))):=rfl
theorem tryF_ok {tb:List Str} {i:Nat} {h:Sv} {ρ:Rho} {f:Fl}:zNg tb i h ρ (.ok f)=.ok f:=rfl
theorem tryF_err {tb:List Str} {i:Nat} {h:Sv} {ρ:Rho} {c:Str}:zNg tb i h ρ (.err c)=zLE i h ρ c (tb.contains c):=rfl
theorem tryH_nx {i:Nat} {ρ:Rho}:zMo i (.ok (.nx ρ))=.ok (.nx (ρ.set i .un)):=rfl
theorem oAdd_i {i j:Int}:zK (.int i) (.int j)=.ok (.int (i+j)):=rfl
theorem oAddI_i {i j:Int}:zBd (.int i) (.int j)=.ok (.int (i+j)):=rfl
theorem oSub_i {i j:Int}:uB (.int i) (.int j)=.ok (.int (i - j)):=rfl
theorem oMul_i {i j:Int} (h:iV i j=true):mZ (.int i) (.int j)=.ok (.int (i * j)):=if_pos h
theorem oDiv_i {i j:Int} (h:kB j=true):rC (.int i) (.int j)=.ok (.int (i.fdiv j)):=if_pos h
theorem oMod_i {i j:Int} (h:j≠0):oM (.int i) (.int j)=.ok (.int (i.fmod j)):=if_pos h
theorem oPow_i {i j:Int} (h:qE i j=true):zGL (.int i) (.int j)=.ok (.int (i^j.toNat)):=if_pos h
theorem oEq_i {i j:Int}:oEq (.int i) (.int j)=.ok (.bl (decide (i=j))):=rfl
theorem oNe_i {i j:Int}:oNe (.int i) (.int j)=.ok (.bl (!decide (i=j))):=rfl
theorem oLt_i {i j:Int}:oLt (.int i) (.int j)=.ok (.bl (decide (i < j))):=rfl
theorem oLe_i {i j:Int}:oLe (.int i) (.int j)=.ok (.bl (decide (i<=j))):=rfl
theorem oGt_i {i j:Int}:oGt (.int i) (.int j)=.ok (.bl (decide (j < i))):=rfl
theorem oGe_i {i j:Int}:oGe (.int i) (.int j)=.ok (.bl (decide (j<=i))):=rfl
theorem zDs {ds:List D} {i:Int}:oIx (.lst ds) (.int i)=ofO (atD ds i):=rfl
theorem ofO_some {α:Type} {a:α}:ofO (some a)=.ok a:=rfl
theorem oNeg_i {i:Int}:zGO (.int i)=.ok (.int (-i)):=rfl
theorem oNot_b {b:Bool}:zNX (.bl b)=.ok (.bl (!b)):=rfl
theorem bAbs_i {i:Int}:zHX [.int i]=.ok (.int (i.natAbs:Int)):=by
 show Res.ok (D.int (if i < 0 then -i else i))=_
 congr 2;split<;>omega
theorem bMin_i {i j:Int}:zOb [.int i,.int j]=.ok (.int (min i j)):=by
 show Res.ok (D.int (if j < i then j else i))=_
 congr 2;split<;>omega
theorem sC {j:Int} (h1:-(2^62)<=j) (h2:j < 2^62):zKq [.int j]=.ok (rng 0 j.toNat 1):=if_pos ⟨h1,h2⟩
theorem zJA {i j:Int} (h1:-(2^62)<=i) (h2:i < 2^62) (h3:-(2^62)<=j) (h4:j < 2^62):zLb [.int i,.int j]=.ok (rng i (j - i).toNat 1):=if_pos ⟨h1,h2,h3,h4⟩
theorem zEl {α:Type} {g:Gv} {b:Sv} {ds:List D} {ρ:Rho} {k:Fl->Res α} {Q:Res α->Prop} (P:Rho->Prop) (h0:P ρ)
  (st:∀ d ρ,d∈ds->P ρ->∃ ρ2,(g d ρ).bind b=.ok (.nx ρ2)/\P ρ2) (fi:∀ ρ',P ρ'->Q (k (.nx ρ'))):Q ((dY g b ds ρ).bind k):=by
 suffices h:∃ ρ',dY g b ds ρ=.ok (.nx ρ')/\P ρ' by
  obtain ⟨ρ',e,hp⟩:=h
  rw [e]
  exact fi ρ' hp
 clear fi
 induction ds generalizing ρ with
 | nil=>exact ⟨ρ,rfl,h0⟩
 | cons d ds ih=>
  obtain ⟨ρ2,e,hp⟩:=st d ρ List.mem_cons_self h0
  obtain ⟨ρ',e',hp'⟩:=ih hp fun d' ρ' hd=>st d' ρ' (List.mem_cons_of_mem _ hd)
  refine ⟨ρ',?_,hp'⟩
  rw [dY]
  cases hg:g d ρ with
  | no=>rw [hg] at e;cases e
  | err c=>rw [hg] at e;cases e
  | ok ρ1=>
   rw [hg] at e
   have e2:b ρ1=.ok (.nx ρ2):=e
   simp only [Res.bind,e2]
   exact e'
theorem ty_i {i:Int}:tyN (.int i) = "int" := rfl
theorem ty_b {b:Bool}:tyN (.bl b) = "bool" := rfl
theorem ty_t {ds:List D}:tyN (.tup ds) = "tuple" := rfl
theorem ty_l {ds:List D}:tyN (.lst ds) = "list" := rfl
theorem ty_s {x:Str}:tyN (.str x) = "str" := rfl
theorem ty_n:tyN .non = "NoneType" := rfl
theorem bLen_t {ds:List D}:nA [.tup ds]=.ok (.int ds.length):=rfl
theorem bLen_l {ds:List D}:nA [.lst ds]=.ok (.int ds.length):=rfl
theorem bTup_t {ds:List D}:zJi [.tup ds]=.ok (.tup ds):=rfl
theorem bTup_l {ds:List D}:zJi [.lst ds]=.ok (.tup ds):=rfl
theorem sN {α:Type} {g:Gv} {b:Sv} {ds:List D} {ρ:Rho} {k:Fl->Res α} {Q:Res α->Prop} (P:Nat->Rho->Prop) (h0:P 0 ρ)
  (st:∀ i d ρ,ds[i]?=some d->P i ρ->∃ ρ2,(g d ρ).bind b=.ok (.nx ρ2)/\P (i+1) ρ2) (fi:∀ ρ',P ds.length ρ'->Q (k (.nx ρ'))):Q ((dY g b ds ρ).bind k):=by
 suffices h:∀ (ds:List D) (j:Nat) (ρ:Rho),P j ρ->(∀ i d ρ,ds[i]?=some d->P (j+i) ρ->∃ ρ2,(g d ρ).bind b=.ok (.nx ρ2)/\P (j+i+1) ρ2)->∃ ρ',dY g b ds ρ=.ok (.nx ρ')/\P (j+ds.length) ρ' by
  obtain ⟨ρ',e,hp⟩:=h ds 0 ρ h0 (fun i d ρ hd hp=>by rw [Nat.zero_add] at hp ⊢;exact st i d ρ hd hp)
  rw [e]
  exact fi ρ' (by rw [Nat.zero_add] at hp;exact hp)
 intro ds
 induction ds with
 | nil=>intro j ρ hp _;exact ⟨ρ,rfl,hp⟩
 | cons d ds ih=>
  intro j ρ hp st
  obtain ⟨ρ2,e,hp2⟩:=st 0 d ρ rfl hp
  obtain ⟨ρ',e',hp'⟩:=ih (j+1) ρ2 hp2 fun i d' ρ' hd hp=>by
   have:=st (i+1) d' ρ' (by simpa using hd) (by rw [show j+(i+1)=j+1+i by omega];exact hp)
   rw [show j+(i+1)=j+1+i by omega] at this
   exact this
  refine ⟨ρ',?_,by rw [List.length_cons,show j+(ds.length+1)=j+1+ds.length by omega];exact hp'⟩
  rw [dY]
  cases hg:g d ρ with
  | no=>rw [hg] at e;cases e
  | err c=>rw [hg] at e;cases e
  | ok ρ1=>
   rw [hg] at e
   have e2:b ρ1=.ok (.nx ρ2):=e
   simp only [Res.bind,e2]
   exact e'
theorem zDD {lo c:Int} {n i:Nat} {d:D} (h:(rng lo n c)[i]?=some d):i < n/\d=.int (lo+(i:Int) * c):=by
 unfold rng at h
 rw [List.getElem?_map] at h
 by_cases hi:i < n
 ·rw [List.getElem?_range hi] at h
  cases h
  exact ⟨hi,rfl⟩
 ·rw [List.getElem?_eq_none (by rw [List.length_range];omega)] at h
  cases h
theorem zHw {lo c:Int} {n:Nat}:(rng lo n c).length=n:=by unfold rng;rw [List.length_map,List.length_range]
def zIO (t:Tv) (f:Ev) (ρ:Rho) (ds:List D):Res (List D):=if ds.length<=16777215 then iI t f ρ ds else .no
theorem fComp_at {it:Fv} {t:Tv} {f:Ev} {ρ:Rho}:mI it t f ρ=(it ρ).bind (zIO t f ρ):=rfl
theorem pB {d:D} (h:dep d<=50):oNe d d=.ok (.bl false):=by unfold oNe;rw [if_pos h,nN];rfl
theorem zIQ {d:D} (h:dep d<=50):oEq d d=.ok (.bl true):=by unfold oEq;rw [if_pos h,nN]
theorem qO {ds:List D} {k:Int} (h:0<=k):iP ds none (some k)=ds.take k.toNat:=by
 unfold iP cut
 simp only [h,if_true,List.drop_zero,Nat.sub_zero]
 rcases Nat.le_total k.toNat ds.length with l | l
 ·rw [Nat.min_eq_left l]
 ·rw [Nat.min_eq_right l,List.take_length,List.take_of_length_le l]
theorem zCl {α:Type} (l:List α) (a:Nat):l.drop (min a l.length)=l.drop a:=by
 rcases Nat.le_total a l.length with h | h
 ·rw [Nat.min_eq_left h]
 ·rw [Nat.min_eq_right h,List.drop_length,List.drop_eq_nil_of_le h]
theorem zER {ds:List D} {a b:Int} (h1:0<=a) (h2:0<=b):iP ds (some a) (some b)=(ds.drop a.toNat).take (b.toNat - a.toNat):=by
 unfold iP cut
 simp only [h1,h2,if_true]
 rw [zCl]
 rcases Nat.le_total ds.length a.toNat with c | c
 ·rw [List.drop_eq_nil_of_le c,List.take_nil,List.take_nil]
 ·rw [Nat.min_eq_left c]
  rcases Nat.le_total b.toNat ds.length with d | d
  ·rw [Nat.min_eq_left d]
  ·rw [Nat.min_eq_right d,List.take_of_length_le (by rw [List.length_drop];exact Nat.le_refl _),List.take_of_length_le (by rw [List.length_drop];exact Nat.sub_le_sub_right d _)]
theorem oR {ds:List D} {a:Int} (h1:0<=a):iP ds (some a) none=ds.drop a.toNat:=by
 unfold iP cut
 simp only [h1,if_true]
 rw [zCl,List.take_of_length_le (by rw [List.length_drop];omega)]
theorem pY {α:Type} {f:α->D} {l:List α} {i:Int} {a:α} (h0:0<=i) (h:l[i.toNat]?=some a):oIx (.lst (l.map f)) (.int i)=.ok (f a):=by
 show ofO (atD (l.map f) i)=_
 unfold atD
 rw [if_pos h0,List.getElem?_map,h]
 rfl
def popS (i:Nat) (ρ:Rho):Option Sl->Res Fl
 | some (.own ds)=>if ds.length=0 then .no else .ok (.nx (ρ.set i (.own ds.dropLast)))
 | _=>.no
theorem sPop_at {i:Nat} {ρ:Rho}:zKm i ρ=popS i ρ ρ[i]?:=by unfold zKm popS;rfl
theorem oIx_tc {d:D} {ds:List D} {i:Int}:oIx (.tup (d::ds)) (.int i)=ofO (atD (d::ds) i):=rfl
theorem gG {α:Type} {f:α->D} {l:List α} {i:Int} {a:α} (h0:0<=i) (h:l[i.toNat]?=some a):oIx (.tup (l.map f)) (.int i)=.ok (f a):=by
 show ofO (atD (l.map f) i)=_
 unfold atD
 rw [if_pos h0,List.getElem?_map,h]
 rfl
theorem zHH {α:Type} {f:α->D} {l:List α} {k:Nat} {a:α} (h0:0 < k) (h:k<=l.length) (h2:l[l.length - k]?=some a):atD (l.map f) (-(k:Int))=some (f a):=by
 unfold atD
 rw [if_neg (by omega),List.length_map,if_pos (by omega),show ((l.length:Int)+-(k:Int)).toNat=l.length - k by omega,List.getElem?_map,h2]
 rfl
theorem zAP {α:Type} {f:α->D} {l:List α} {k:Nat} {i:Int} {a:α} (hi:i=-(k:Int)) (h0:0 < k) (h:k<=l.length) (h2:l[l.length - k]?=some a):oIx (.lst (l.map f)) (.int i)=.ok (f a):=by
 show ofO (atD (l.map f) i)=_
 rw [hi,zHH h0 h h2]
 rfl
theorem zED {α:Type} {f:α->D} {l:List α} {k:Nat} {i:Int} {a:α} (hi:i=-(k:Int)) (h0:0 < k) (h:k<=l.length) (h2:l[l.length - k]?=some a):oIx (.tup (l.map f)) (.int i)=.ok (f a):=by
 show ofO (atD (l.map f) i)=_
 rw [hi,zHH h0 h h2]
 rfl
theorem zFh {α:Type} {g:Gv} {b:Sv} {ds:List D} {ρ:Rho} {k:Fl->Res α} {Q:Res α->Prop} (P:Nat->Rho->Prop) (h0:P 0 ρ)
  (st:∀ i d ρ,ds[i]?=some d->P i ρ->(∃ ρ2,(g d ρ).bind b=.ok (.nx ρ2)/\P (i+1) ρ2)∨∃ r,(g d ρ).bind b=.ok (.ret r)/\Q (k (.ret r))) (fi:∀ ρ',P ds.length ρ'->Q (k (.nx ρ'))):Q ((dY g b ds ρ).bind k):=by
 suffices h:∀ (ds:List D) (j:Nat) (ρ:Rho),P j ρ->(∀ i d ρ,ds[i]?=some d->P (j+i) ρ->(∃ ρ2,(g d ρ).bind b=.ok (.nx ρ2)/\P (j+i+1) ρ2)∨∃ r,(g d ρ).bind b=.ok (.ret r)/\Q (k (.ret r)))->(∃ ρ',dY g b ds ρ=.ok (.nx ρ')/\P (j+ds.length) ρ')∨∃ r,dY g b ds ρ=.ok (.ret r)/\Q (k (.ret r)) by
  rcases h ds 0 ρ h0 (fun i d ρ hd hp=>by rw [Nat.zero_add] at hp ⊢;exact st i d ρ hd hp) with ⟨ρ',e,hp⟩ | ⟨r,e,hq⟩
  ·rw [e]
   exact fi ρ' (by rw [Nat.zero_add] at hp;exact hp)
  ·rw [e]
   exact hq
 intro ds
 induction ds with
 | nil=>intro j ρ hp _;exact .inl ⟨ρ,rfl,hp⟩
 | cons d ds ih=>
  intro j ρ hp st
  rcases st 0 d ρ rfl hp with ⟨ρ2,e,hp2⟩ | ⟨r,e,hq⟩
  ·have e3:dY g b (d::ds) ρ=dY g b ds ρ2:=by
    rw [dY]
    cases hg:g d ρ with
    | no=>rw [hg] at e;cases e
    | err c=>rw [hg] at e;cases e
    | ok ρ1=>
     rw [hg] at e
     have e2:b ρ1=.ok (.nx ρ2):=e
     simp only [Res.bind,e2]
   rw [e3]
   rcases ih (j+1) ρ2 hp2 (fun i d' ρ' hd hp=>by
    have:=st (i+1) d' ρ' (by simpa using hd) (by rw [show j+(i+1)=j+1+i by omega];exact hp)
    rw [show j+(i+1)=j+1+i by omega] at this
    exact this) with ⟨ρ',e',hp'⟩ | h
   ·exact .inl ⟨ρ',e',by rw [List.length_cons,show j+(ds.length+1)=j+1+ds.length by omega];exact hp'⟩
   ·exact .inr h
  ·refine .inr ⟨r,?_,hq⟩
   rw [dY]
   cases hg:g d ρ with
   | no=>rw [hg] at e;cases e
   | err c=>rw [hg] at e;cases e
   | ok ρ1=>
    rw [hg] at e
    have e2:b ρ1=.ok (.ret r):=e
    simp only [Res.bind,e2]
def zMU (ds:List D):D->Res (List D)
 | .int k=>if 0<=k/\k < 2^62/\ds.length * k.toNat<=16777216 then .ok (List.replicate k.toNat ds).flatten else .no
 | _=>.no
def repF (g:Ev) (ρ:Rho) (ds:List D):Res (List D):=(g ρ).bind (zMU ds)
theorem fRep_at {f:Fv} {g:Ev} {ρ:Rho}:zIH f g ρ=(f ρ).bind (repF g ρ):=by
 unfold zIH repF;congr
theorem zCq {d:D} {k:Nat} (h:k<=16777216):zMU [d] (.int (k:Int))=.ok (List.replicate k d):=by
 have e:∀ n,(List.replicate n [d]).flatten=List.replicate n d:=by
  intro n
  induction n with
  | zero=>rfl
  | succ n ih=>rw [List.replicate_succ,List.flatten_cons,ih];rfl
 unfold zMU
 dsimp only
 rw [if_pos ⟨by omega,by omega,by simp only [List.length_cons,List.length_nil,Int.toNat_natCast];omega⟩,Int.toNat_natCast,e]
theorem zFr {α:Type} {u:α->D} {f:Ev} {ρ:Rho} {g:α->D}:∀ {l:List α},(∀ a∈l,f (ρ++[.val (u a)])=.ok (g a))->iI oW f ρ (l.map u)=.ok (l.map g)
 | [],_=>rfl
 | a::l,h=>by
  rw [List.map_cons,iI,h a List.mem_cons_self]
  simp only [oW,noErr,Res.bind,if_true]
  rw [zFr fun b hb=>h b (List.mem_cons_of_mem _ hb)]
  rfl
theorem fO {α:Type} {u:α->D} {f:Ev} {ρ:Rho} {g:α->D} {l:List α} (hl:l.length<=16777215) (h:∀ a∈l,f (ρ++[.val (u a)])=.ok (g a)):zIO oW f ρ (l.map u)=.ok (l.map g):=by
 unfold zIO;rw [if_pos (by rw [List.length_map];exact hl),zFr h]
def zNw:D->Res (List D)
 | .tup ds=>.ok ds.reverse
 | _=>.no
theorem revD_t {ds:List D}:zNw (.tup ds)=.ok ds.reverse:=rfl
theorem iRev_at {e:Ev} {ρ:Rho}:zMl e ρ=(e ρ).bind zNw:=by
 unfold zMl;congr
theorem bSum_l {ns:List Int}:zBj [.lst (ns.map D.int)]=.ok (.int ns.sum):=by
 have e:∀ ns:List Int,qG (ns.map D.int)=some ns:=by
  intro ns
  induction ns with
  | nil=>rfl
  | cons i ns ih=>rw [List.map_cons,qG,ih]
 show (match qG (ns.map D.int) with | some ns=>Res.ok (D.int ns.sum) | none=>.no)=_
 rw [e]
theorem bSum_t {ns:List Int}:zBj [.tup (ns.map D.int)]=.ok (.int ns.sum):=by
 have e:∀ ns:List Int,qG (ns.map D.int)=some ns:=by
  intro ns
  induction ns with
  | nil=>rfl
  | cons i ns ih=>rw [List.map_cons,qG,ih]
 show (match qG (ns.map D.int) with | some ns=>Res.ok (D.int ns.sum) | none=>.no)=_
 rw [e]
def slI (i:Nat) (ρ:Rho):Int:=match ρ[i]? with
 | some (.val (.int x))=>x
 | _=>0
theorem chO_s {c:Nat}:chO (some c)=.ok (.str ⟨#[c]⟩):=rfl
theorem zKZ {x:Str}:dep (.str x)<=50:=by simp [dep]
theorem oEq_s {x y:Str}:oEq (.str x) (.str y)=.ok (.bl (x==y)):=by
 unfold oEq;rw [if_pos zKZ,eqD]
theorem oNe_s {x y:Str}:oNe (.str x) (.str y)=.ok (.bl (!(x==y))):=by
 unfold oNe;rw [if_pos zKZ,eqD]
theorem dR {g:Gv} {b:Sv} {d:D} {ds:List D} {ρ ρ1 ρ2:Rho} (hg:g d ρ=.ok ρ1) (hb:b ρ1=.ok (.nx ρ2)):dY g b (d::ds) ρ=dY g b ds ρ2:=by
 rw [dY]
 simp only [hg,Res.bind,hb]
theorem oTabNot_s {T:List (Str×Str)} {x:Str}:pI T (.str x)=.ok (.bl (!(T.lookup x).isSome)):=rfl
def zNx:List D->Res (List D)
 | [x,y]=>match zFY x,zFY y with
  | some xs,some ys=>.ok (mT xs ys)
  | _,_=>.no
 | _=>.no
theorem iZip_at {a:Fv} {ρ:Rho}:zJX a ρ=(a ρ).bind zNx:=by
 unfold zJX;congr
theorem qZ {x y:D} {xs ys:List D} (hx:zFY x=some xs) (hy:zFY y=some ys):zNx [x,y]=.ok (mT xs ys):=by
 show (match zFY x,zFY y with | some xs,some ys=>Res.ok (mT xs ys) | _,_=>.no)=_
 rw [hx,hy]
def zFi (f:Ev) (ρ:Rho) (ds:List D):Res (List D):=if ds.length<=16777215 then fB f ρ ds else .no
theorem fComp2_at {it:Fv} {f:Ev} {ρ:Rho}:sQ it f ρ=(it ρ).bind (zFi f ρ):=rfl
theorem zBF {α β:Type} {u:α->D} {v:β->D} {f:Ev} {ρ:Rho} {g:α->β->D}:∀ {l:List α} {m:List β},(∀ p∈l.zip m,f (ρ++[.val (u p.1),.val (v p.2)])=.ok (g p.1 p.2))->
  fB f ρ (mT (l.map u) (m.map v))=.ok ((l.zip m).map fun p=>g p.1 p.2)
 | [],m,h=>by cases m<;>rfl
 | a::l,[],h=>rfl
 | a::l,b::m,h=>by
  have h1:=h (a,b) List.mem_cons_self
  have h2:=zBF (l:=l) (m:=m) (u:=u) (v:=v) (g:=g) fun p hp=>h p (List.mem_cons_of_mem _ hp)
  show (noErr (f (ρ++[.val (u a),.val (v b)]))).bind (fun e=>(fB f ρ (mT (l.map u) (m.map v))).bind fun es=>.ok (e::es))=_
  rw [h1,h2]
  rfl
theorem kN {α β:Type} {u:α->D} {v:β->D} {f:Ev} {ρ:Rho} {g:α->β->D} {l:List α} {m:List β} (hl:l.length<=16777215) (h:∀ p∈l.zip m,f (ρ++[.val (u p.1),.val (v p.2)])=.ok (g p.1 p.2)):
  zFi f ρ (mT (l.map u) (m.map v))=.ok ((l.zip m).map fun p=>g p.1 p.2):=by
 unfold zFi
 rw [if_pos,zBF h]
 have:∀ (a b:List D),(mT a b).length<=a.length:=by
  intro a
  induction a with
  | nil=>intro b;cases b<;>exact Nat.le_refl _
  | cons x a ih=>intro b;cases b with
   | nil=>exact Nat.zero_le _
   | cons y b=>exact Nat.succ_le_succ (ih b)
 exact Nat.le_trans (this _ _) (by rw [List.length_map];exact hl)
end L3
namespace Ln
open Fq
abbrev Pt:=Rat×Rat
def asc (a b:Pt):Prop:=a.1 < b.1/\a.2<=b.2
def btw (a b c:Pt):Bool:=decide ((b.2 - a.2) * (c.1 - b.1)=(c.2 - b.2) * (b.1 - a.1))
def push:List Pt->Pt->List Pt
 | b::a::s,c=>if btw a b c=true then c::a::s else c::b::a::s
 | s,c=>c::s
theorem zDh {s:List Pt} {c:Pt} (h:¬ 1 < s.length):push s c=c::s:=by
 match s,h with
 | [],_=>rfl
 | [b],_=>rfl
 | b::a::s,h=>exact absurd (show 1 < s.length+2 by omega) h
def lP (ps:List Pt):List Pt:=(ps.foldl push []).reverse
def few:Pt->List Pt->List Pt
 | _,[]=>[]
 | _,[b]=>[b]
 | a,b::c::r=>if btw a b c=true then few b (c::r) else b::few b (c::r)
def zAp:List Pt->List Pt
 | []=>[]
 | a::r=>a::few a r
def dir (a p b:Pt):Prop:=a.1 < b.1/\p.1 < b.1/\(b.2 - a.2) * (b.1 - p.1)=(b.2 - p.2) * (b.1 - a.1)
theorem kJ {x a b:Rat} (h:x≠0) (e:a * x=b * x):a=b:=by
 have:a * x * x⁻¹=b * x * x⁻¹:=by rw [e]
 rw [Rat.mul_assoc,Rat.mul_assoc,Rat.mul_inv_cancel _ h,Rat.mul_one,Rat.mul_one] at this
 exact this
theorem rJ {a p b c:Pt} (h:dir a p b):btw a b c=btw p b c:=by
 obtain ⟨h1,h2,h3⟩:=h
 unfold btw
 have n1:b.1 - a.1≠0:=by grind
 have n2:b.1 - p.1≠0:=by grind
 congr 1
 apply propext
 constructor
 ·intro e
  refine kJ n1 ?_
  grind
 ·intro e
  refine kJ n2 ?_
  grind
theorem zAL {a b c:Pt} (h:a.1 < b.1) (k:b.1 < c.1) (e:btw a b c=true):dir a b c:=by
 have e:=of_decide_eq_true e
 refine ⟨by grind,k,?_⟩
 grind
theorem vX:∀ (r:List Pt) (p b a:Pt) (s:List Pt),dir a p b->(b::r).Pairwise asc->(r.foldl push (b::a::s)).reverse=(a::s).reverse++few p (b::r)
 | [],p,b,a,s,_,_=>by simp [few]
 | c::r,p,b,a,s,h,hp=>by
  have hbc:asc b c:=(List.pairwise_cons.mp hp).1 c List.mem_cons_self
  have hr:=(List.pairwise_cons.mp hp).2
  rw [List.foldl_cons,push,few,rJ h]
  by_cases e:btw p b c=true
  ·rw [if_pos e,if_pos e]
   exact vX r b c a s (zAL h.1 hbc.1 (by rw [rJ h];exact e)) hr
  ·rw [if_neg e,if_neg e,vX r b c b (a::s) ⟨hbc.1,hbc.1,rfl⟩ hr]
   simp
theorem oA {ps:List Pt} (h:ps.Pairwise asc):lP ps=zAp ps:=by
 unfold lP
 match ps,h with
 | [],_=>rfl
 | [a],_=>rfl
 | a::b::r,h=>
  have hab:=(List.pairwise_cons.mp h).1 b List.mem_cons_self
  show (r.foldl push [b,a]).reverse=_
  rw [vX r a b a [] ⟨hab.1,hab.1,rfl⟩ (List.pairwise_cons.mp h).2]
  rfl
theorem zBb:∀ (r:List Pt) (a:Pt),(few a r).Sublist r
 | [],_=>List.Sublist.slnil
 | [b],_=>List.Sublist.refl _
 | b::c::r,a=>by
  rw [few]
  split
  ·exact (zBb (c::r) b).cons b
  ·exact (zBb (c::r) b).cons₂ b
theorem vA (ps:List Pt):(zAp ps).Sublist ps:=by
 cases ps with
 | nil=>exact List.Sublist.slnil
 | cons a r=>exact (zBb r a).cons₂ a
theorem zCN:∀ (r:List Pt) (a:Pt),(few a r).getLast?=r.getLast?
 | [],_=>rfl
 | [b],_=>rfl
 | b::c::r,a=>by
  have ih:=zCN (c::r) b
  rw [few]
  split
  ·rw [ih];rfl
  ·rw [List.getLast?_cons,ih]
   simp [List.getLast?_cons]
theorem zBa (ps:List Pt):(zAp ps).getLast?=ps.getLast?:=by
 cases ps with
 | nil=>rfl
 | cons a r=>rw [zAp,List.getLast?_cons,zCN,List.getLast?_cons]
def zDw:List Pt->Prop
 | a::b::c::r=>btw a b c=false/\zDw (b::c::r)
 | _=>True
theorem zCF:∀ (r:List Pt) (p b:Pt),(p::b::r).Pairwise asc->∃ d t,few p (b::r)=d::t/\b.1<=d.1/\(d.2 - p.2) * (b.1 - p.1)=(b.2 - p.2) * (d.1 - p.1)
 | [],p,b,_=>⟨b,[],rfl,Rat.le_refl,rfl⟩
 | c::r,p,b,h=>by
  have h1:=List.pairwise_cons.mp h
  have h2:=List.pairwise_cons.mp h1.2
  have pb:=h1.1 b List.mem_cons_self
  have bc:=h2.1 c List.mem_cons_self
  rw [few]
  by_cases e:btw p b c=true
  ·rw [if_pos e]
   obtain ⟨d,t,e1,l,e2⟩:=zCF r b c h1.2
   have e3:=of_decide_eq_true e
   refine ⟨d,t,e1,by grind [asc],?_⟩
   have n:c.1 - b.1≠0:=by grind [asc]
   refine kJ n ?_
   have e4:(d.2 - b.2) * (b.1 - p.1)=(b.2 - p.2) * (d.1 - b.1):=by
    refine kJ n ?_
    grind
   grind
  ·rw [if_neg e]
   exact ⟨b,_,rfl,Rat.le_refl,rfl⟩
theorem wZ:∀ (r:List Pt) (a p b:Pt),dir a p b->(b::r).Pairwise asc->(p::b::r).Pairwise asc->zDw (a::few p (b::r))
 | [],a,p,b,_,_,_=>by simp [few,zDw]
 | c::r,a,p,b,h,hb,hp=>by
  have bc:=(List.pairwise_cons.mp hb).1 c List.mem_cons_self
  have hc:=(List.pairwise_cons.mp hb).2
  rw [few]
  by_cases e:btw p b c=true
  ·rw [if_pos e]
   exact wZ r a b c (zAL h.1 bc.1 (by rw [rJ h];exact e)) hc hb
  ·rw [if_neg e]
   have ih:=wZ r b b c ⟨bc.1,bc.1,rfl⟩ hc hb
   obtain ⟨d,t,e1,l,e2⟩:=zCF r b c hb
   rw [e1] at ih ⊢
   refine ⟨?_,ih⟩
   rw [rJ h]
   rw [Bool.eq_false_iff]
   intro z
   apply e
   have z:=of_decide_eq_true z
   refine decide_eq_true ?_
   have n:d.1 - b.1≠0:=by grind [asc]
   refine kJ n ?_
   grind
theorem zAT {ps:List Pt} (h:ps.Pairwise asc):zDw (zAp ps):=by
 match ps,h with
 | [],_=>trivial
 | [a],_=>trivial
 | a::b::r,h=>
  have hab:=(List.pairwise_cons.mp h).1 b List.mem_cons_self
  exact wZ r a a b ⟨hab.1,hab.1,rfl⟩ (List.pairwise_cons.mp h).2 h
def Ok (ps:List Pt):Prop:=ps.head?=some (0,0)/\ps.Pairwise asc
def zIG (ps:List Pt):Prop:=Ok ps/\zDw ps
theorem zAG {ps:List Pt} (h:Ok ps):zIG (lP ps):=by
 rw [oA h.2]
 refine ⟨⟨?_,h.2.sublist (vA ps)⟩,zAT h.2⟩
 obtain ⟨h,_⟩:=h
 cases ps with
 | nil=>cases h
 | cons a r=>exact h
theorem qX {ps:List Pt} (h:ps.Pairwise asc) {i j:Nat} {a b:Pt} (l:i < j) (ha:ps[i]?=some a) (hb:ps[j]?=some b):asc a b:=by
 obtain ⟨hi,rfl⟩:=List.getElem?_eq_some_iff.mp ha
 obtain ⟨hj,rfl⟩:=List.getElem?_eq_some_iff.mp hb
 exact List.pairwise_iff_getElem.mp h i j hi hj l
def SzP (n:Nat) (p:Pt):Prop:=Sz n p.1/\Sz n p.2
theorem lt_iff {p q:Rat}:p.num * q.den < q.num * p.den ↔ p < q:=Rat.lt_iff p q |>.symm
theorem zCY {t b:Int} (ht:0 < t) (hb:0 < b):0 < Rat.divInt t b:=by
 rw [Rat.divInt_eq_div]
 have h1:(0:Rat) < (t:Rat):=by exact_mod_cast ht
 have h2:(0:Rat) < (b:Rat):=by exact_mod_cast hb
 rw [Rat.div_def]
 exact Rat.mul_pos h1 (Rat.inv_pos.mpr h2)
theorem zFa {t b:Int} (ht:0<=t) (hb:0 < b):0<=Rat.divInt t b:=by
 rcases Int.lt_or_eq_of_le ht with h | h
 ·exact Rat.le_of_lt (zCY h hb)
 ·rw [<-h,Rat.zero_divInt];exact Rat.le_refl
def itp (p q:Pt) (x:Rat):Rat:=p.2+(x - p.1) / (q.1 - p.1) * (q.2 - p.2)
def dI:List Pt->Rat->Rat
 | [],_=>0
 | [p],_=>p.2
 | p::q::r,x=>if x<=q.1 then itp p q x else dI (q::r) x
theorem zLe (p q:Pt):itp p q p.1=p.2:=by
 unfold itp
 rw [Rat.sub_self,Rat.div_def,Rat.zero_mul,Rat.zero_mul,Rat.add_zero]
theorem zLa {p q:Pt} (h:p.1 < q.1):itp p q q.1=q.2:=by
 unfold itp
 have n:q.1 - p.1≠0:=by grind
 rw [Rat.div_def,Rat.mul_inv_cancel _ n,Rat.one_mul]
 grind
theorem fN:∀ {ps:List Pt},ps.Pairwise asc->∀ {i:Nat} {p:Pt},ps[i]?=some p->dI ps p.1=p.2
 | [],_,i,p,hp=>by cases hp
 | [a],_,i,p,hp=>by
  cases i with
  | zero=>cases hp;rfl
  | succ i=>cases hp
 | a::b::r,h,i,p,hp=>by
  have hab:=(List.pairwise_cons.mp h).1 b List.mem_cons_self
  rw [dI]
  match i,hp with
  | 0,hp=>
   cases hp
   rw [if_pos (Rat.le_of_lt hab.1),zLe]
  | 1,hp=>
   cases hp
   rw [if_pos Rat.le_refl,zLa hab.1]
  | i+2,hp=>
   have hb:asc b p:=qX h (show 1 < i+2 by omega) rfl hp
   rw [if_neg (by have:=hb.1;grind)]
   exact fN (List.pairwise_cons.mp h).2 (i:=i+1) hp
theorem kX:∀ {ps:List Pt},ps.Pairwise asc->∀ {i:Nat} {p q:Pt} {x:Rat},ps[i]?=some p->ps[i+1]?=some q->p.1<=x->x<=q.1->dI ps x=itp p q x
 | [],_,i,p,q,x,hp,_,_,_=>by cases hp
 | [a],_,i,p,q,x,hp,hq,_,_=>by cases hq
 | a::b::r,h,i,p,q,x,hp,hq,h1,h2=>by
  have hab:=(List.pairwise_cons.mp h).1 b List.mem_cons_self
  cases i with
  | zero=>
   cases hp
   cases hq
   rw [dI,if_pos h2]
  | succ i=>
   have hr:=(List.pairwise_cons.mp h).2
   by_cases c:x=p.1
   ·subst c
    rw [zLe]
    exact fN h hp
   ·rw [dI,if_neg]
    ·exact kX hr (i:=i) hp hq h1 h2
    ·intro z
     cases i with
     | zero=>
      cases hp
      exact c (by grind)
     | succ i=>
      have hb:asc b p:=qX h (show 1 < i+1+1 by omega) rfl hp
      have:=hb.1
      grind
def ax:Bool->Pt->Rat
 | false,p=>p.1
 | true,p=>p.2
theorem mY {ps:List Pt} (h:ps.Pairwise asc) (b:Bool) {i j:Nat} {p q:Pt} (l:i<=j) (hp:ps[i]?=some p) (hq:ps[j]?=some q):ax b p<=ax b q:=by
 rcases Nat.lt_or_eq_of_le l with l | l
 ·have:=qX h l hp hq
  cases b
  ·exact Rat.le_of_lt this.1
  ·exact this.2
 ·subst l
  rw [hp] at hq
  cases hq
  exact Rat.le_refl
theorem zEt:∀ {ps:List Pt} {e:Pt} {x:Rat},ps.Pairwise asc->ps.getLast?=some e->(∀ p,ps.head?=some p->p.1<=x)->x<=e.1->
  (∃ (i:Nat) (p:Pt),ps[i]?=some p/\p.1=x)∨∃ (i:Nat) (p q:Pt),ps[i]?=some p/\ps[i+1]?=some q/\p.1 < x/\x < q.1
 | [],e,x,_,he,_,_=>by cases he
 | [a],e,x,_,he,h0,h1=>by
  cases he
  have:=h0 a rfl
  exact .inl ⟨0,a,rfl,by grind⟩
 | a::b::r,e,x,h,he,h0,h1=>by
  have ha:=h0 a rfl
  by_cases c:a.1=x
  ·exact .inl ⟨0,a,rfl,c⟩
  by_cases d:x < b.1
  ·exact .inr ⟨0,a,b,rfl,rfl,by grind,d⟩
  ·rcases zEt (List.pairwise_cons.mp h).2 (by rw [<-he];simp [List.getLast?_cons]) (fun p hp=>by cases hp;grind) h1 with ⟨i,p,h2,h3⟩ | ⟨i,p,q,h2,h3,h4⟩
   ·exact .inl ⟨i+1,p,h2,h3⟩
   ·exact .inr ⟨i+1,p,q,h2,h3,h4⟩
theorem zDd {a b c:Pt} (h1:a.1 < b.1) (h2:b.1 < c.1) (e:btw a b c=true):(b.2 - a.2) / (b.1 - a.1)=(c.2 - a.2) / (c.1 - a.1)/\(c.2 - b.2) / (c.1 - b.1)=(c.2 - a.2) / (c.1 - a.1):=by
 have e:=of_decide_eq_true e
 have n1:b.1 - a.1≠0:=by grind
 have n2:c.1 - b.1≠0:=by grind
 have n3:c.1 - a.1≠0:=by grind
 have i1:=Rat.mul_inv_cancel _ n1
 have i2:=Rat.mul_inv_cancel _ n2
 have i3:=Rat.mul_inv_cancel _ n3
 rw [Rat.div_def,Rat.div_def,Rat.div_def]
 constructor
 ·refine kJ n1 (kJ n3 ?_)
  grind
 ·refine kJ n2 (kJ n3 ?_)
  grind
theorem jB (p q:Pt) (x:Rat):itp p q x=p.2+(x - p.1) * ((q.2 - p.2) / (q.1 - p.1)):=by
 unfold itp
 rw [Rat.div_def,Rat.div_def]
 grind
theorem zHg {a b c:Pt} (h1:a.1 < b.1) (h2:b.1 < c.1) (e:btw a b c=true) (x:Rat):itp a b x=itp a c x/\itp b c x=itp a c x:=by
 obtain ⟨s1,s2⟩:=zDd h1 h2 e
 rw [jB,jB,jB,s1,s2]
 refine ⟨rfl,?_⟩
 have n1:b.1 - a.1≠0:=by grind
 have i1:=Rat.mul_inv_cancel _ n1
 rw [<-s1,Rat.div_def]
 generalize (b.1 - a.1)⁻¹=u at i1
 grind
theorem zHm {a b c:Pt} {r:List Pt} (h1:a.1 < b.1) (h2:b.1 < c.1) (e:btw a b c=true) (x:Rat):dI (a::b::c::r) x=dI (a::c::r) x:=by
 obtain ⟨e1,e2⟩:=zHg h1 h2 e x
 rw [dI,dI,dI,e1,e2]
 by_cases c1:x<=b.1
 ·rw [if_pos c1,if_pos (by grind)]
 ·rw [if_neg c1]
theorem zBk:∀ (r:List Pt) (a p b:Pt) (x:Rat),dir a p b->(b::r).Pairwise asc->dI (a::few p (b::r)) x=dI (a::b::r) x
 | [],a,p,b,x,_,_=>rfl
 | c::r,a,p,b,x,h,hb=>by
  have bc:=(List.pairwise_cons.mp hb).1 c List.mem_cons_self
  have hc:=(List.pairwise_cons.mp hb).2
  rw [few]
  by_cases e:btw p b c=true
  ·have e':btw a b c=true:=by rw [rJ h];exact e
   rw [if_pos e,zBk r a b c x (zAL h.1 bc.1 e') hc,zHm h.1 bc.1 e']
  ·show _=(if x<=b.1 then itp a b x else dI (b::c::r) x)
   rw [if_neg e,dI,zBk r b b c x ⟨bc.1,bc.1,rfl⟩ hc]
theorem zDc {ps:List Pt} (h:ps.Pairwise asc) (x:Rat):dI (lP ps) x=dI ps x:=by
 rw [oA h]
 match ps,h with
 | [],_=>rfl
 | [a],_=>rfl
 | a::b::r,h=>
  have hab:=(List.pairwise_cons.mp h).1 b List.mem_cons_self
  exact zBk r a a b x ⟨hab.1,hab.1,rfl⟩ (List.pairwise_cons.mp h).2
theorem zBE {ps:List Pt} (h:ps.Pairwise asc):(lP ps).getLast?=ps.getLast?:=by rw [oA h,zBa]
theorem uY {ps:List Pt} (h:ps.Pairwise asc):(lP ps).Sublist ps:=by rw [oA h];exact vA ps
theorem yG {ps:List Pt} {e p:Pt} (h:Ok ps) (he:ps.getLast?=some e) (hp:p∈ps):0<=p.1/\p.1<=e.1/\0<=p.2/\p.2<=e.2:=by
 obtain ⟨i,hi⟩:=List.mem_iff_getElem?.mp hp
 have hil:=(List.getElem?_eq_some_iff.mp hi).1
 have h0:ps[0]?=some (0,0):=by rw [<-List.head?_eq_getElem?];exact h.1
 rw [List.getLast?_eq_getElem?] at he
 have a1:(0:Rat)<=p.1:=mY h.2 false (Nat.zero_le i) h0 hi
 have a2:(0:Rat)<=p.2:=mY h.2 true (Nat.zero_le i) h0 hi
 have b1:p.1<=e.1:=mY h.2 false (show i<=ps.length - 1 by omega) hi he
 have b2:p.2<=e.2:=mY h.2 true (show i<=ps.length - 1 by omega) hi he
 exact ⟨a1,b1,a2,b2⟩
theorem lD {a p:Pt} {r:List Pt} (h:(a::p::r).Pairwise asc) {x:Rat} (hx:p.1<=x):dI (a::p::r) x=dI (p::r) x:=by
 have hp:=(List.pairwise_cons.mp h).2
 have ap:=(List.pairwise_cons.mp h).1 p List.mem_cons_self
 rw [dI]
 by_cases c:x<=p.1
 ·have e:x=p.1:=by grind
  rw [if_pos c,e,zLa ap.1]
  exact (fN hp (i:=0) rfl).symm
 ·rw [if_neg c]
theorem zAg {a p q e f:Pt} {r s:List Pt} (hr:(a::p::r).Pairwise asc) (hs:(a::q::s).Pairwise asc) (br:zDw (a::p::r)) (er:(a::p::r).getLast?=some e) (es:(a::q::s).getLast?=some f) (ef:e.1=f.1)
  (hv:∀ x,a.1<=x->x<=e.1->dI (a::p::r) x=dI (a::q::s) x):¬ p.1 < q.1:=by
 intro l
 have ap:=(List.pairwise_cons.mp hr).1 p List.mem_cons_self
 have aq:=(List.pairwise_cons.mp hs).1 q List.mem_cons_self
 have qf:q.1<=f.1:=by
  rw [List.getLast?_eq_getElem?] at es
  exact mY hs false (i:=1) (show 1<=(a::q::s).length - 1 by simp) rfl es
 cases r with
 | nil=>
  cases er
  have:p.1=f.1:=ef
  grind
 | cons u r=>
  have hp:=(List.pairwise_cons.mp hr).2
  have pu:=(List.pairwise_cons.mp hp).1 u List.mem_cons_self
  have ue:u.1<=e.1:=by
   rw [List.getLast?_eq_getElem?] at er
   exact mY hr false (i:=2) (show 2<=(a::p::u::r).length - 1 by simp) rfl er
  have key:∀ x,p.1 < x->x<=u.1->x<=q.1->btw a p u=true:=by
   intro x h1 h2 h3
   have v1:=hv p.1 (Rat.le_of_lt ap.1) (by grind)
   have v2:=hv x (by have:=ap.1;grind) (by grind)
   rw [lD hr Rat.le_refl,fN hp (i:=0) rfl,dI,if_pos (Rat.le_of_lt l)] at v1
   rw [lD hr (Rat.le_of_lt h1),dI,if_pos h2,dI,if_pos h3] at v2
   rw [jB] at v1
   rw [jB,jB] at v2
   generalize (q.2 - a.2) / (q.1 - a.1)=k at v1 v2
   have n1:x - p.1≠0:=by grind
   have n2:u.1 - p.1≠0:=by have:=pu.1;grind
   have i2:=Rat.mul_inv_cancel _ n2
   rw [Rat.div_def] at v2
   generalize (u.1 - p.1)⁻¹=w at i2 v2
   have s1:(u.2 - p.2) * w=k:=by
    refine kJ n1 ?_
    grind
   refine decide_eq_true ?_
   have s2:u.2 - p.2=k * (u.1 - p.1):=by
    have:(u.2 - p.2) * w * (u.1 - p.1)=k * (u.1 - p.1):=by rw [s1]
    grind
   grind
  have nb:=br.1
  by_cases c:u.1<=q.1
  ·rw [key u.1 pu.1 Rat.le_refl c] at nb
   cases nb
  ·rw [key q.1 l (by grind) Rat.le_refl] at nb
   cases nb
theorem zCd:∀ (r s:List Pt) (a e f:Pt),(a::r).Pairwise asc->(a::s).Pairwise asc->zDw (a::r)->zDw (a::s)->(a::r).getLast?=some e->(a::s).getLast?=some f->e.1=f.1->
  (∀ x,a.1<=x->x<=e.1->dI (a::r) x=dI (a::s) x)->r=s
 | [],[],_,_,_,_,_,_,_,_,_,_,_=>rfl
 | [],q::s,a,e,f,_,hs,_,_,er,es,ef,_=>by
  cases er
  rw [List.getLast?_eq_getElem?] at es
  have:=(qX hs (i:=0) (show 0 < (a::q::s).length - 1 by simp) rfl es).1
  grind
 | p::r,[],a,e,f,hr,_,_,_,er,es,ef,_=>by
  cases es
  rw [List.getLast?_eq_getElem?] at er
  have:=(qX hr (i:=0) (show 0 < (a::p::r).length - 1 by simp) rfl er).1
  grind
 | p::r,q::s,a,e,f,hr,hs,br,bs,er,es,ef,hv=>by
  have n1:=zAg hr hs br er es ef hv
  have n2:=zAg hs hr bs es er ef.symm fun x h1 h2=>(hv x h1 (by rw [ef];exact h2)).symm
  have pq:p.1=q.1:=by grind
  have hp:=(List.pairwise_cons.mp hr).2
  have hq:=(List.pairwise_cons.mp hs).2
  have ap:=(List.pairwise_cons.mp hr).1 p List.mem_cons_self
  have pe:p.1<=e.1:=by
   have er':=er
   rw [List.getLast?_eq_getElem?] at er'
   exact mY hr false (i:=1) (show 1<=(a::p::r).length - 1 by simp) rfl er'
  have v:=hv p.1 (Rat.le_of_lt ap.1) pe
  rw [lD hr Rat.le_refl,fN hp (i:=0) rfl,lD hs (show q.1<=p.1 by grind),pq,fN hq (i:=0) rfl] at v
  have e1:p=q:=Prod.ext pq v
  subst e1
  have br':zDw (p::r):=by
   cases r with
   | nil=>trivial
   | cons u r=>exact br.2
  have bs':zDw (p::s):=by
   cases s with
   | nil=>trivial
   | cons u s=>exact bs.2
  rw [zCd r s p e f hp hq br' bs' (by rw [<-er];simp [List.getLast?_cons]) (by rw [<-es];simp [List.getLast?_cons]) ef fun x h1 h2=>by
   have:=hv x (by have:=ap.1;grind) h2
   rw [lD hr h1,lD hs h1] at this
   exact this]
theorem zIK {ps qs:List Pt} {e f:Pt} (hp:zIG ps) (hq:zIG qs) (he:ps.getLast?=some e) (hf:qs.getLast?=some f) (ef:e.1=f.1) (hv:∀ x,0<=x->x<=e.1->dI ps x=dI qs x):ps=qs:=by
 cases ps with
 | nil=>cases he
 | cons a r=>
  cases qs with
  | nil=>cases hf
  | cons b s=>
   have h1:=hp.1.1
   have h2:=hq.1.1
   cases h1
   cases h2
   rw [zCd r s (0,0) e f hp.1.2 hq.1.2 hp.2 hq.2 he hf ef hv]
def trn (ps:List Pt) (e:Pt):List Pt:=ps.reverse.map fun p=>(e.1 - p.1,e.2 - p.2)
theorem zGf {ps:List Pt} {e:Pt} (h:ps.head?=some (0,0)):(trn ps e).getLast?=some e:=by
 unfold trn
 rw [List.getLast?_map,List.getLast?_reverse,h]
 show some (e.1 - 0,e.2 - 0)=some e
 rw [show e.1 - 0=e.1 by grind,show e.2 - 0=e.2 by grind]
theorem zCB:∀ {ps:List Pt},zDw ps->∀ {i:Nat} {a b c:Pt},ps[i]?=some a->ps[i+1]?=some b->ps[i+2]?=some c->btw a b c=false
 | [],_,i,a,b,c,h,_,_=>by cases h
 | [x],_,i,a,b,c,_,h,_=>by cases h
 | [x,y],_,i,a,b,c,_,_,h=>by
  have:=(List.getElem?_eq_some_iff.mp h).1
  simp at this
  omega
 | x::y::z::r,h,0,a,b,c,h1,h2,h3=>by
  cases h1
  cases h2
  cases h3
  exact h.1
 | x::y::z::r,h,i+1,a,b,c,h1,h2,h3=>zCB (ps:=y::z::r) h.2 (i:=i) h1 h2 h3
theorem zFK:∀ {ps:List Pt},(∀ (i:Nat) (a b c:Pt),ps[i]?=some a->ps[i+1]?=some b->ps[i+2]?=some c->btw a b c=false)->zDw ps
 | [],_=>trivial
 | [x],_=>trivial
 | [x,y],_=>trivial
 | x::y::z::r,h=>⟨h 0 x y z rfl rfl rfl,zFK fun i a b c h1 h2 h3=>h (i+1) a b c h1 h2 h3⟩
theorem zDI {ps:List Pt} {e p:Pt} {i:Nat} (h:ps[i]?=some p):(trn ps e)[ps.length - 1 - i]?=some (e.1 - p.1,e.2 - p.2):=by
 have hi:=(List.getElem?_eq_some_iff.mp h).1
 unfold trn
 rw [List.getElem?_map,List.getElem?_reverse (by omega),show ps.length - 1 - (ps.length - 1 - i)=i by omega,h]
 rfl
theorem vJ {ps:List Pt} {e u:Pt} {i:Nat} (h:(trn ps e)[i]?=some u):i < ps.length/\∃ p,ps[ps.length - 1 - i]?=some p/\u=(e.1 - p.1,e.2 - p.2):=by
 unfold trn at h
 rw [List.getElem?_map] at h
 cases hp:ps.reverse[i]? with
 | none=>rw [hp] at h;cases h
 | some p=>
  rw [hp] at h
  cases h
  have hi:=(List.getElem?_eq_some_iff.mp hp).1
  rw [List.length_reverse] at hi
  rw [List.getElem?_reverse hi] at hp
  exact ⟨hi,p,hp,rfl⟩
theorem zBR {ps:List Pt} {e:Pt} (h:zIG ps) (he:ps.getLast?=some e):zIG (trn ps e):=by
 refine ⟨⟨?_,?_⟩,?_⟩
 ·unfold trn
  rw [List.head?_map,List.head?_reverse,he]
  show some (e.1 - e.1,e.2 - e.2)=_
  rw [Rat.sub_self,Rat.sub_self]
 ·unfold trn
  refine List.pairwise_map.mpr (List.pairwise_reverse.mpr (h.1.2.imp fun {a b} hab=>?_))
  exact ⟨by show e.1 - b.1 < e.1 - a.1;have:=hab.1;grind,by show e.2 - b.2<=e.2 - a.2;have:=hab.2;grind⟩
 ·refine zFK fun i a b c h1 h2 h3=>?_
  obtain ⟨l1,p,hp,rfl⟩:=vJ h1
  obtain ⟨l2,q,hq,rfl⟩:=vJ h2
  obtain ⟨l3,r,hr,rfl⟩:=vJ h3
  have nb:=zCB h.2 (i:=ps.length - 1 - (i+2)) hr (by rw [show ps.length - 1 - (i+2)+1=ps.length - 1 - (i+1) by omega];exact hq) (by rw [show ps.length - 1 - (i+2)+2=ps.length - 1 - i by omega];exact hp)
  have nb:=of_decide_eq_false nb
  refine decide_eq_false fun z=>nb ?_
  grind
theorem zIw {ps:List Pt} {e:Pt} (h:zIG ps) (he:ps.getLast?=some e) {x:Rat} (h0:0<=x) (h1:x<=e.1):dI (trn ps e) x=e.2 - dI ps (e.1 - x):=by
 have ht:=(zBR h he).1.2
 rcases zEt h.1.2 he (x:=e.1 - x) (fun p hp=>by rw [h.1.1] at hp;cases hp;show (0:Rat)<=e.1 - x;grind) (by grind) with ⟨i,p,ip,ep⟩ | ⟨i,p,q,ip,iq,lp,lq⟩
 ·have:=fN ht (zDI (e:=e) ip)
  rw [show x=(e.1 - p.1,e.2 - p.2).1 by show x=e.1 - p.1;grind,this,show e.1 - (e.1 - p.1,e.2 - p.2).1=p.1 by show e.1 - (e.1 - p.1)=p.1;grind,fN h.1.2 ip]
 ·have hi:=(List.getElem?_eq_some_iff.mp iq).1
  have tq:=zDI (e:=e) iq
  have tp:=zDI (e:=e) ip
  rw [show ps.length - 1 - i=ps.length - 1 - (i+1)+1 by omega] at tp
  rw [kX ht tq tp (by show e.1 - q.1<=x;grind) (by show x<=e.1 - p.1;grind),kX h.1.2 ip iq (Rat.le_of_lt lp) (Rat.le_of_lt lq)]
  have pq:=qX h.1.2 (Nat.lt_succ_self i) ip iq
  have n:q.1 - p.1≠0:=by have:=pq.1;grind
  unfold itp
  dsimp only
  rw [show e.1 - p.1 - (e.1 - q.1)=q.1 - p.1 by grind,Rat.div_def,Rat.div_def]
  have i1:=Rat.mul_inv_cancel _ n
  generalize (q.1 - p.1)⁻¹=w at i1
  grind
end Ln
namespace L3
open PySem PySem.Spec PyProof.Rows L2
abbrev St:=L2.St
mutual
inductive IsD (K:PySem.W.Frag) (H:Hp):V->D->Prop where
 | non:IsD K H .non .non
 | bl (b:Bool):IsD K H (.bl b) (.bl b)
 | int (i:Int):IsD K H (.int i) (.int i)
 | str (x:Str):IsD K H (.str x) (.str x)
 | tup {a:Addr} {xs:List V} {ds:List D}:SqT K H a xs->IsDs K H xs ds->IsD K H (.ref a) (.tup ds)
 | lst {a:Addr} {xs:List V} {ds:List D}:SqL K H a xs->IsDs K H xs ds->IsD K H (.ref a) (.lst ds)
inductive IsDs (K:PySem.W.Frag) (H:Hp):List V->List D->Prop where
 | nil:IsDs K H [] []
 | cons {v:V} {d:D} {vs:List V} {ds:List D}:IsD K H v d->IsDs K H vs ds->IsDs K H (v::vs) (d::ds)
end
theorem _root_.L2.Same.rd {H H':Hp} (e:Same H H') {a:Addr} {u:HO} (h:Rd H a u):Rd H' a u:=by
 rcases h with h | ⟨o,h⟩
 ·exact .inl (e _ _ h)
 ·exact .inr ⟨o,e _ _ h⟩
theorem bY {K:PySem.W.Frag} {H H':Hp} (e:Same H H') {a:Addr} {xs:List V} (h:SqT K H a xs):SqT K H' a xs:=h.imp (Same.rd e) id
theorem cQ {K:PySem.W.Frag} {H H':Hp} (e:Same H H') {a:Addr} {xs:List V} (h:SqL K H a xs):SqL K H' a xs:=h.imp (Same.rd e) id
section
variable {K:PySem.W.Frag} {H H':Hp}
mutual
theorem IsD.mono (e:Same H H'):∀ {v:V} {d:D},IsD K H v d->IsD K H' v d
 | _,_,.non=>.non
 | _,_,.bl b=>.bl b
 | _,_,.int i=>.int i
 | _,_,.str x=>.str x
 | _,_,.tup h hs=>.tup (bY e h) (IsDs.mono e hs)
 | _,_,.lst h hs=>.lst (cQ e h) (IsDs.mono e hs)
theorem IsDs.mono (e:Same H H'):∀ {vs:List V} {ds:List D},IsDs K H vs ds->IsDs K H' vs ds
 | _,_,.nil=>.nil
 | _,_,.cons h hs=>.cons (IsD.mono e h) (IsDs.mono e hs)
end
theorem IsDs.length:∀ {vs:List V} {ds:List D},IsDs K H vs ds->vs.length=ds.length
 | _,_,.nil=>rfl
 | _,_,.cons _ hs=>by rw [List.length_cons,List.length_cons,IsDs.length hs]
theorem IsDs.at:∀ {vs:List V} {ds:List D} {j:Nat} {d:D},IsDs K H vs ds->ds[j]?=some d->∃ v,vs[j]?=some v/\IsD K H v d
 | _,_,_,_,.nil,e=>by simp at e
 | _,_,0,_,.cons r _,e=>by simp at e;subst e;exact ⟨_,rfl,r⟩
 | _,_,j+1,d,.cons _ t,e=>by
  obtain ⟨v,h1,h2⟩:=IsDs.at (j:=j) (d:=d) t (by simpa using e)
  exact ⟨v,by simpa using h1,h2⟩
theorem IsDs.append:∀ {vs ws:List V} {ds es:List D},IsDs K H vs ds->IsDs K H ws es->IsDs K H (vs++ws) (ds++es)
 | _,_,_,_,.nil,s=>s
 | _,_,_,_,.cons r t,s=>.cons r (IsDs.append t s)
theorem IsDs.take:∀ {vs:List V} {ds:List D} (n:Nat),IsDs K H vs ds->IsDs K H (vs.take n) (ds.take n)
 | _,_,0,_=>.nil
 | _,_,_+1,.nil=>.nil
 | _,_,n+1,.cons r t=>.cons r (IsDs.take n t)
theorem IsDs.drop:∀ {vs:List V} {ds:List D} (n:Nat),IsDs K H vs ds->IsDs K H (vs.drop n) (ds.drop n)
 | _,_,0,r=>r
 | _,_,_+1,.nil=>.nil
 | _,_,n+1,.cons _ t=>IsDs.drop n t
theorem IsDs.dropLast:∀ {vs:List V} {ds:List D},IsDs K H vs ds->IsDs K H vs.dropLast ds.dropLast
 | _,_,.nil=>.nil
 | _,_,.cons _ .nil=>.nil
 | _,_,.cons r (.cons q t)=>.cons r (IsDs.dropLast (.cons q t))
theorem IsDs.set {v:V} {d:D} (h:IsD K H v d):∀ {vs:List V} {ds:List D} (j:Nat),IsDs K H vs ds->IsDs K H (vs.set j v) (ds.set j d)
 | _,_,_,.nil=>.nil
 | _,_,0,.cons _ t=>.cons h t
 | _,_,j+1,.cons q t=>.cons q (IsDs.set h j t)
mutual
theorem IsD.noL (k:∀ b xs,Rd H b (.tup xs)->Rd H' b (.tup xs)):∀ {v:V} {d:D},IsD K H v d->L3.noL d=true->IsD K H' v d
 | _,_,.non,_=>.non
 | _,_,.bl b,_=>.bl b
 | _,_,.int i,_=>.int i
 | _,_,.str x,_=>.str x
 | _,_,.tup h hs,e=>.tup (h.imp (k _ _) id) (IsDs.noL k hs (by rw [L3.noL] at e;exact e))
 | _,_,.lst h hs,e=>by rw [L3.noL] at e;cases e
theorem IsDs.noL (k:∀ b xs,Rd H b (.tup xs)->Rd H' b (.tup xs)):∀ {vs:List V} {ds:List D},IsDs K H vs ds->L3.noLs ds=true->IsDs K H' vs ds
 | _,_,.nil,_=>.nil
 | _,_,.cons h hs,e=>by
  rw [L3.noLs,Bool.and_eq_true] at e
  exact .cons (IsD.noL k h e.1) (IsDs.noL k hs e.2)
end
end
theorem IsD.intI {K:PySem.W.Frag} {H:Hp} {v:V} {i:Int} (h:IsD K H v (.int i)):v=.int i:=by cases h;rfl
theorem IsD.blI {K:PySem.W.Frag} {H:Hp} {v:V} {b:Bool} (h:IsD K H v (.bl b)):v=.bl b:=by cases h;rfl
theorem IsD.strI {K:PySem.W.Frag} {H:Hp} {v:V} {x:Str} (h:IsD K H v (.str x)):v=.str x:=by cases h;rfl
theorem IsD.tupI {K:PySem.W.Frag} {H:Hp} {v:V} {ds:List D} (h:IsD K H v (.tup ds)):∃ a xs,v=.ref a/\SqT K H a xs/\IsDs K H xs ds:=by
 cases h with
 | tup h hs=>exact ⟨_,_,rfl,h,hs⟩
theorem IsD.lstI {K:PySem.W.Frag} {H:Hp} {v:V} {ds:List D} (h:IsD K H v (.lst ds)):∃ a xs,v=.ref a/\SqL K H a xs/\IsDs K H xs ds:=by
 cases h with
 | lst h hs=>exact ⟨_,_,rfl,h,hs⟩
def qI:Str := "ranked.<locals>.<lambda>"
def yR (P:Addr) (H:Hp):Prop:=∃ ps,H P=some (.tbl ps)/\TriplesOk ps.toList/\∀ (pos:Pos) (cv:Value),codeAmong pos ps.toList=some cv->∃ c oc vs t u,cv=.ref c/\H c=some (.frz oc u)/\oc.data=.fields vs/\vs[1]?=some (.str qI t)
theorem yR.put {P a:Addr} {H:Hp} {x:HO} (h:yR P H) (h1:∀ ps,H a≠some (.tbl ps)) (h2:∀ o u,H a≠some (.frz o u)):yR P (upd H a x):=by
 obtain ⟨ps,e,t,k⟩:=h
 refine ⟨ps,by rw [bC (show P≠a from fun z=>h1 ps (by rw [<-z];exact e))];exact e,t,fun pos cv q=>?_⟩
 obtain ⟨c,oc,vs,tk,u,r1,r2,r3⟩:=k pos cv q
 exact ⟨c,oc,vs,tk,u,r1,by rw [bC (show c≠a from fun z=>h2 oc u (by rw [<-z];exact r2))];exact r2,r3⟩
structure Keep (H H':Hp):Prop where
 k:∀ b o,H b=some o->H' b=some o∨∃ ps ps',o=.tbl ps/\H' b=some (.tbl ps')
 t:∀ P,yR P H->yR P H'
theorem Keep.refl (H:Hp):Keep H H:=⟨fun _ _ e=>.inl e,fun _ e=>e⟩
theorem Keep.trans {H H1 H2:Hp} (a:Keep H H1) (b:Keep H1 H2):Keep H H2:=
 ⟨fun c o e=>by
  rcases a.k c o e with z | ⟨ps,ps',rfl,z⟩
  ·exact b.k c o z
  ·rcases b.k c _ z with y | ⟨qs,qs',_,y⟩
   ·exact .inr ⟨ps,ps',rfl,y⟩
   ·exact .inr ⟨ps,qs',rfl,y⟩,fun P e=>b.t P (a.t P e)⟩
theorem Keep.at {H H':Hp} (k:Keep H H') {b:Addr} {o:HO} (e:H b=some o) (ho:∀ ps,o≠.tbl ps:=by intro ps z;cases z):H' b=some o:=by
 rcases k.k b o e with z | ⟨ps,ps',z,_⟩
 ·exact z
 ·exact absurd z (ho ps)
theorem Keep.none {H H':Hp} (k:Keep H H') {p:Addr} (e:H' p=none):H p=none:=by
 cases z:H p with
 | none=>rfl
 | some o=>rcases k.k p o z with y | ⟨_,_,_,y⟩<;>(rw [y] at e;cases e)
structure Ext (Hi H Hi' H':Hp):Prop where
 i:Same Hi Hi'
 h:Keep H H'
 s:Same Hi' H'
 n:∀ b,Hi b=none->Hi' b≠none->H b=none
theorem Ext.refl {Hi H:Hp} (h:Same Hi H):Ext Hi H Hi H:=⟨Same.refl _,Keep.refl _,h,fun _ e q=>absurd e q⟩
theorem Ext.trans {Hi H Hi1 H1 Hi2 H2:Hp} (a:Ext Hi H Hi1 H1) (b:Ext Hi1 H1 Hi2 H2):Ext Hi H Hi2 H2:=
 ⟨a.i.trans b.i,a.h.trans b.h,b.s,fun c e q=>by
  cases z:Hi1 c with
  | some o=>exact a.n c e (by rw [z];exact fun w=>by cases w)
  | none=>
   have z2:=b.n c z q
   exact a.h.none z2⟩
theorem cV {H:Hp} {p:Addr} (h:H p=none) (o:HO):Same H (upd H p o):=fun b u q=>by rw [bC (bB q h)];exact q
theorem zCe {H:Hp} {p:Addr} (h:H p=none) (o:HO):Keep H (upd H p o):=⟨fun b u q=>.inl (cV h o b u q),fun P e=>e.put (fun ps z=>by rw [h] at z;cases z) (fun ob u z=>by rw [h] at z;cases z)⟩
theorem _root_.L2.Same.none {H H':Hp} (h:Same H H') {p:Addr} (e:H' p=none):H p=none:=by
 cases z:H p with
 | none=>rfl
 | some o=>rw [h _ _ z] at e;cases e
theorem Ext.new {Hi H:Hp} {p:Addr} {o:HO} (h:Same Hi H) (hp:H p=none):Ext Hi H (upd Hi p o) (upd H p o) where
 i:=cV (h.none hp) o
 h:=zCe hp o
 s:=fun b u q=>by
  by_cases e:b=p
  ·subst e;rw [aZ] at q ⊢;exact q
  ·rw [bC e] at q ⊢;exact h _ _ q
 n:=fun b e q=>by
  by_cases z:b=p
  ·rw [z];exact hp
  ·rw [bC z] at q;exact absurd e q
theorem Ext.newF {Hi H:Hp} {p:Addr} {o:HO} (h:Same Hi H) (hp:H p=none):Ext Hi H Hi (upd H p o) where
 i:=Same.refl _
 h:=zCe hp o
 s:=h.trans (cV hp o)
 n:=fun b e q=>absurd e q
theorem Ext.out {Hi H Hi' H':Hp} (e:Ext Hi H Hi' H') {a:Addr} {o:HO} (h:H a=some o) (hi:Hi a=none) (ho:∀ ps,o≠.tbl ps:=by intro ps z;cases z):H' a=some o/\Hi' a=none:=by
 refine ⟨e.h.at h ho,?_⟩
 cases z:Hi' a with
 | none=>rfl
 | some u=>have:=e.n a hi (by rw [z];exact fun w=>by cases w);rw [h] at this;cases this
theorem Ext.hold {Hi H Hi' H':Hp} (e:Ext Hi H Hi' H') {a:Addr} {o:HO} (hn:H a=none) (h:H' a=some o) (hi:Hi' a=none):Ext Hi H (upd Hi' a o) H' where
 i:=e.i.trans (cV hi o)
 h:=e.h
 s:=fun b u q=>by
  by_cases z:b=a
  ·subst z;rw [aZ] at q;cases q;exact h
  ·rw [bC z] at q;exact e.s _ _ q
 n:=fun b z q=>by
  by_cases w:b=a
  ·rw [w];exact hn
  ·rw [bC w] at q;exact e.n b z q
def zGZ (a C:Addr):Heap->Prop:=fun h=>∃ o vs,h.get? a=some o/\o.cls=.ref C/\o.data=.fields vs
def kvT (T:List (Str×Str)):List (Key×V):=T.map fun q=>(Sum.inr q.1,V.str q.2)
def zCv (K:PySem.W.Frag) (mg:Str->Option Value) (B Hi H:Hp) (o:Option (Option V)):Sl->Prop
 | .un=>True
 | .val d=>∃ v,o=some (some v)/\IsD K Hi v d
 | .own ds=>∃ a xs,o=some (some (.ref a))/\H a=some (.lst xs)/\Hi a=none/\B a=none/\IsDs K Hi xs ds
 | .exc c=>∃ a C,o=some (some (.ref a))/\H a=some (.ext (zGZ a C))/\Hi a=none/\B a=none/\mg c=some (.ref C)
 | .tab T=>∃ a,o=some (some (.ref a))/\Hi a=some (.dK (kvT T))
structure Rel (K:PySem.W.Frag) (mg:Str->Option Value) (B Bi Hi H:Hp) (σ:St) (ρ:Rho):Prop where
 len:σ.length=ρ.length
 ext:Ext Bi B Hi H
 slot:∀ (i:Nat) (s:Sl),ρ[i]?=some s->zCv K mg B Hi H σ[i]? s
 dist:∀ (i j:Nat) (a:Addr) (ds es:List D),ρ[i]?=some (.own ds)->ρ[j]?=some (.own es)->σ[i]?=some (some (.ref a))->σ[j]?=some (some (.ref a))->i=j
section
variable {K:PySem.W.Frag} {mg:Str->Option Value} {B Bi Hi H Hi' H':Hp} {σ:St} {ρ:Rho}
theorem zCv.ext {o:Option (Option V)} {s:Sl} (h:zCv K mg B Hi H o s) (e:Ext Hi H Hi' H'):zCv K mg B Hi' H' o s:=by
 cases s with
 | un=>trivial
 | val d=>obtain ⟨v,q,r⟩:=h;exact ⟨v,q,r.mono e.i⟩
 | own ds=>
  obtain ⟨a,xs,q,h1,h2,h3,h4⟩:=h
  obtain ⟨e1,e2⟩:=e.out h1 h2
  exact ⟨a,xs,q,e1,e2,h3,h4.mono e.i⟩
 | exc c=>
  obtain ⟨a,C,q,h1,h2,h3,h4⟩:=h
  obtain ⟨e1,e2⟩:=e.out h1 h2
  exact ⟨a,C,q,e1,e2,h3,h4⟩
 | tab T=>obtain ⟨a,q,h1⟩:=h;exact ⟨a,q,e.i _ _ h1⟩
theorem Rel.grow (R:Rel K mg B Bi Hi H σ ρ) (e:Ext Hi H Hi' H'):Rel K mg B Bi Hi' H' σ ρ:=⟨R.len,R.ext.trans e,fun i s q=>(R.slot i s q).ext e,R.dist⟩
theorem Rel.s (R:Rel K mg B Bi Hi H σ ρ):Same Hi H:=R.ext.s
theorem Rel.set {i:Nat} {v:V} {d:D} (R:Rel K mg B Bi Hi H σ ρ) (h:IsD K Hi v d):Rel K mg B Bi Hi H (σ.set i (some v)) (ρ.set i (.val d)) where
 len:=by rw [List.length_set,List.length_set];exact R.len
 ext:=R.ext
 slot:=fun j s q=>by
  by_cases e:i=j
  ·subst e
   by_cases hl:i < ρ.length
   ·rw [List.getElem?_set_self hl] at q;cases q
    exact ⟨v,by rw [List.getElem?_set_self (by rw [R.len];exact hl)],h⟩
   ·rw [List.getElem?_eq_none (by rw [List.length_set];omega)] at q;cases q
  ·rw [List.getElem?_set_ne e] at q ⊢
   exact R.slot j s q
 dist:=fun j k a ds es q1 q2 q3 q4=>by
  have h1:∀ {j:Nat} {ds:List D},(ρ.set i (.val d))[j]?=some (.own ds)->i≠j:=fun {j ds} q e=>by
   subst e
   by_cases hl:i < ρ.length
   ·rw [List.getElem?_set_self hl] at q;cases q
   ·rw [List.getElem?_eq_none (by rw [List.length_set];omega)] at q;cases q
  have n1:=h1 q1
  have n2:=h1 q2
  rw [List.getElem?_set_ne n1] at q1 q3
  rw [List.getElem?_set_ne n2] at q2 q4
  exact R.dist j k a ds es q1 q2 q3 q4
theorem Rel.setOwn {i:Nat} {a:Addr} {xs:List V} {ds:List D} (R:Rel K mg B Bi Hi H σ ρ) (e:Ext Hi H Hi' H') (hn:H a=none) (h:H' a=some (.lst xs)) (hi:Hi' a=none) (hs:IsDs K Hi' xs ds):
  Rel K mg B Bi Hi' H' (σ.set i (some (.ref a))) (ρ.set i (.own ds)) where
 len:=by rw [List.length_set,List.length_set];exact R.len
 ext:=R.ext.trans e
 slot:=fun j s q=>by
  by_cases z:i=j
  ·subst z
   by_cases hl:i < ρ.length
   ·rw [List.getElem?_set_self hl] at q;cases q
    exact ⟨a,xs,by rw [List.getElem?_set_self (by rw [R.len];exact hl)],h,hi,R.ext.h.none hn,hs⟩
   ·rw [List.getElem?_eq_none (by rw [List.length_set];omega)] at q;cases q
  ·rw [List.getElem?_set_ne z] at q ⊢
   exact (R.slot j s q).ext e
 dist:=fun j k b es fs q1 q2 q3 q4=>by
  have h1:∀ {j:Nat} {es:List D},i≠j->ρ[j]?=some (.own es)->σ[j]?=some (some (.ref a))->False:=fun {j es} _ p1 p2=>by
   obtain ⟨a',xs',q,h1,_⟩:=R.slot j _ p1
   rw [p2] at q
   cases q
   rw [hn] at h1;cases h1
  have h2:∀ {j:Nat} {es:List D},(ρ.set i (.own ds))[j]?=some (.own es)->i < σ.length∨i≠j:=fun {j es} p=>by
   by_cases z:i=j
   ·subst z
    by_cases hl:i < ρ.length
    ·exact .inl (by rw [R.len];exact hl)
    ·rw [List.getElem?_eq_none (by rw [List.length_set];omega)] at p;cases p
   ·exact .inr z
  by_cases z1:i=j
  ·by_cases z2:i=k
   ·rw [<-z1,<-z2]
   ·exfalso
    subst z1
    have hl:i < σ.length:=(h2 q1).resolve_right (fun w=>w rfl)
    rw [List.getElem?_set_self hl] at q3;cases q3
    rw [List.getElem?_set_ne z2] at q2 q4
    exact h1 z2 q2 q4
  ·by_cases z2:i=k
   ·exfalso
    subst z2
    have hl:i < σ.length:=(h2 q2).resolve_right (fun w=>w rfl)
    rw [List.getElem?_set_self hl] at q4;cases q4
    rw [List.getElem?_set_ne z1] at q1 q3
    exact h1 z1 q1 q3
   ·rw [List.getElem?_set_ne z1] at q1 q3
    rw [List.getElem?_set_ne z2] at q2 q4
    exact R.dist j k b es fs q1 q2 q3 q4
theorem Rel.write {i:Nat} {a:Addr} {ys:List V} {ds es:List D} (R:Rel K mg B Bi Hi H σ ρ) (e:ρ[i]?=some (.own ds)) (ea:σ[i]?=some (some (.ref a))) (hs:IsDs K Hi ys es):
  Rel K mg B Bi Hi (upd H a (.lst ys)) σ (ρ.set i (.own es)):=by
 obtain ⟨a',xs',q,h1,h2,h3,h4⟩:=R.slot i _ e
 rw [ea] at q
 cases q
 have hl:i < ρ.length:=by
  by_cases hl:i < ρ.length
  ·exact hl
  ·rw [List.getElem?_eq_none (by omega)] at e;cases e
 refine ⟨by rw [List.length_set];exact R.len,⟨R.ext.i,⟨fun b o z=>?_,fun P z=>(R.ext.h.t P z).put (fun ps y=>by rw [h1] at y;cases y) (fun ob u y=>by rw [h1] at y;cases y)⟩,fun b o z=>?_,R.ext.n⟩,fun j s z=>?_,fun j k b fs gs q1 q2 q3 q4=>?_⟩
 ·rw [bC (bB z h3)];exact R.ext.h.k _ _ z
 ·rw [bC (bB z h2)];exact R.ext.s _ _ z
 ·by_cases w:i=j
  ·subst w
   rw [List.getElem?_set_self hl] at z;cases z
   exact ⟨a,ys,ea,aZ,h2,h3,hs⟩
  ·rw [List.getElem?_set_ne w] at z
   have S:=R.slot j s z
   cases s with
   | un=>trivial
   | val d=>exact S
   | own fs=>
    obtain ⟨b,zs,p,g1,g2,g3,g4⟩:=S
    have hb:b≠a:=fun c=>w (R.dist i j a ds fs e z ea (by rw [p,c]))
    exact ⟨b,zs,p,by rw [bC hb];exact g1,g2,g3,g4⟩
   | exc c=>
    obtain ⟨b,C,p,g1,g2,g3,g4⟩:=S
    have hb:b≠a:=zMF g1 h1 (by intro z;cases z)
    exact ⟨b,C,p,by rw [bC hb];exact g1,g2,g3,g4⟩
   | tab T=>exact S
 ·have own:∀ {j:Nat} {fs:List D},(ρ.set i (.own es))[j]?=some (.own fs)->∃ gs,ρ[j]?=some (.own gs):=fun {j fs} p=>by
   by_cases w:i=j
   ·subst w;exact ⟨ds,e⟩
   ·rw [List.getElem?_set_ne w] at p;exact ⟨fs,p⟩
  obtain ⟨fs',q1'⟩:=own q1
  obtain ⟨gs',q2'⟩:=own q2
  exact R.dist j k b fs' gs' q1' q2' q3 q4
end
end L3
namespace L3
open PySem PySem.Spec PyProof.Rows L2
section
variable {K:PySem.W.Frag} {mg:Str->Option Value} {B Bi Hi H Hi' H':Hp} {σ:St} {ρ:Rho}
theorem Rel.frz (R:Rel K mg B Bi Hi H σ ρ):∃ Hf,Same Hi Hf/\Rel K mg B Bi Hf H σ (ρ.map Sl.frz)/\∀ b,Hi b=none->Hf b≠none->∃ xs,Hf b=some (.lst xs):=by
 let own:Addr->Prop:=fun b=>∃ (i:Nat) (ds:List D),ρ[i]?=some (.own ds)/\σ[i]?=some (some (.ref b))
 have dec:∀ b,Decidable (own b):=fun b=>Classical.propDecidable _
 let Hf:Hp:=fun b=>match Hi b with
  | some o=>some o
  | none=>if own b then H b else none
 have hf1:∀ b o,Hi b=some o->Hf b=some o:=fun b o e=>by show (match Hi b with | some o=>some o | none=>if own b then H b else none)=_;rw [e]
 have hf2:∀ b,Hi b=none->own b->Hf b=H b:=fun b e z=>by show (match Hi b with | some o=>some o | none=>if own b then H b else none)=_;rw [e];exact if_pos z
 have hf3:∀ b,Hi b=none->¬ own b->Hf b=none:=fun b e z=>by show (match Hi b with | some o=>some o | none=>if own b then H b else none)=_;rw [e];exact if_neg z
 have lst:∀ b,own b->∃ xs,H b=some (.lst xs)/\Hi b=none/\B b=none:=fun b ⟨i,ds,e1,e2⟩=>by
  obtain ⟨a,xs,q,h1,h2,h3,h4⟩:=R.slot i _ e1
  rw [e2] at q;cases q
  exact ⟨xs,h1,h2,h3⟩
 have ss:Same Hf H:=fun b o z=>by
  cases q:Hi b with
  | some u=>rw [hf1 b u q] at z;cases z;exact R.s _ _ q
  | none=>
   by_cases w:own b
   ·rw [hf2 b q w] at z;exact z
   ·rw [hf3 b q w] at z;cases z
 refine ⟨Hf,hf1,⟨by rw [List.length_map];exact R.len,⟨R.ext.i.trans hf1,R.ext.h,ss,fun b z w=>?_⟩,fun j s z=>?_,fun j k b fs gs q1 q2 q3 q4=>?_⟩,fun b z w=>?_⟩
 ·cases q:Hi b with
  | some u=>exact R.ext.n b z (by rw [q];exact fun c=>by cases c)
  | none=>
   by_cases c:own b
   ·exact (lst b c).choose_spec.2.2
   ·exact absurd (hf3 b q c) w
 ·rw [List.getElem?_map] at z
  cases e:ρ[j]? with
  | none=>rw [e] at z;cases z
  | some t=>
   rw [e] at z
   cases z
   have S:=R.slot j t e
   cases t with
   | un=>trivial
   | val d=>obtain ⟨v,p,r⟩:=S;exact ⟨v,p,r.mono hf1⟩
   | own ds=>
    obtain ⟨a,xs,q,h1,h2,h3,h4⟩:=S
    exact ⟨.ref a,q,.lst (SqL.of (by rw [hf2 a h2 ⟨j,ds,e,q⟩];exact h1)) (h4.mono hf1)⟩
   | exc c=>
    obtain ⟨a,C,q,h1,h2,h3,h4⟩:=S
    refine ⟨a,C,q,h1,?_,h3,h4⟩
    refine hf3 a h2 fun c=>?_
    obtain ⟨xs,g,_⟩:=lst a c
    rw [h1] at g;cases g
   | tab T=>obtain ⟨a,q,h1⟩:=S;exact ⟨a,q,hf1 _ _ h1⟩
 ·exfalso
  rw [List.getElem?_map] at q1
  cases e:ρ[j]? with
  | none=>rw [e] at q1;cases q1
  | some t=>rw [e] at q1;cases t<;>cases q1
 ·by_cases c:own b
  ·obtain ⟨xs,g,_⟩:=lst b c
   exact ⟨xs,by rw [hf2 b z c];exact g⟩
  ·exact absurd (hf3 b z c) w
theorem Ext.thaw {Hf:Hp} (s:Same Hi Hf) (fl:∀ b,Hi b=none->Hf b≠none->∃ xs,Hf b=some (.lst xs)) (hs:Same Hf H) (e:Ext Hf H Hi' H'):
  ∃ Ht,Ext Hi H Ht H'/\(∀ b xs,Rd Hi' b (.tup xs)->Rd Ht b (.tup xs))/\Same Ht Hi'/\∀ b,Ht b=none->Hi' b=none∨∃ xs,H b=some (.lst xs):=by
 have dec:∀ b,Decidable (Hi b=none/\Hf b≠none):=fun b=>Classical.propDecidable _
 let Ht:Hp:=fun b=>if Hi b=none/\Hf b≠none then none else Hi' b
 have t1:∀ b,¬ (Hi b=none/\Hf b≠none)->Ht b=Hi' b:=fun b z=>if_neg z
 have t2:∀ b,(Hi b=none/\Hf b≠none)->Ht b=none:=fun b z=>if_pos z
 have tt:Same Ht Hi':=fun b o z=>by
  by_cases w:Hi b=none/\Hf b≠none
  ·rw [t2 b w] at z;cases z
  ·rw [t1 b w] at z;exact z
 refine ⟨Ht,⟨fun b o z=>?_,e.h,tt.trans e.s,fun b z w=>?_⟩,fun b xs r=>?_,tt,fun b z=>?_⟩
 ·rw [t1 b (fun w=>by rw [z] at w;cases w.1)];exact e.i _ _ (s _ _ z)
 ·by_cases c:Hi b=none/\Hf b≠none
  ·exact absurd (t2 b c) w
  ·rw [t1 b c] at w
   have:Hf b=none:=by
    cases q:Hf b with
    | none=>rfl
    | some u=>exact absurd ⟨z,by rw [q];exact fun c=>by cases c⟩ c
   exact e.n b this w
 ·have nl:¬ (Hi b=none/\Hf b≠none):=fun w=>by
   obtain ⟨ys,g⟩:=fl b w.1 w.2
   have g':=e.i _ _ g
   rcases r with r | ⟨o,r⟩<;>(rw [g'] at r;cases r)
  rcases r with r | ⟨o,r⟩
  ·exact .inl (by rw [t1 b nl];exact r)
  ·exact .inr ⟨o,by rw [t1 b nl];exact r⟩
 ·by_cases c:Hi b=none/\Hf b≠none
  ·obtain ⟨ys,g⟩:=fl b c.1 c.2
   exact .inr ⟨ys,hs _ _ g⟩
  ·exact .inl (by rw [t1 b c] at z;exact z)
end
structure Gx where
 B:Hp
 Bi:Hp
 E:Str->Hp->Prop
abbrev jI (X:Cx) (G:Gx) (Hi H:Hp) (σ:St) (ρ:Rho):Prop:=Rel X.K X.mg G.B G.Bi Hi H σ ρ
def Out (G:Gx) (Hi H:Hp) {α:Type} (r:Res α) (k:α->Hp->Hp->Prop):Prop:=match r with
 | .ok a=>∀ Hi' H',Ext Hi H Hi' H'->k a Hi' H'
 | .err c=>∀ Hi' H',Ext Hi H Hi' H'->G.E c H'
 | .no=>False
theorem Out.bind {G:Gx} {Hi H:Hp} {α β:Type} {r:Res α} {f:α->Res β} {k:β->Hp->Hp->Prop} (h:Out G Hi H (r.bind f) k):
  Out G Hi H r fun a Hi' H'=>Out G Hi' H' (f a) k:=by
 cases r with
 | no=>exact h
 | err c=>exact h
 | ok a=>
  intro Hi1 H1 e
  have h':Out G Hi H (f a) k:=h
  show Out G Hi1 H1 (f a) k
  cases q:f a with
  | no=>rw [q] at h';exact h'
  | err c=>rw [q] at h';exact fun Hi2 H2 e2=>h' _ _ (e.trans e2)
  | ok b=>rw [q] at h';exact fun Hi2 H2 e2=>h' _ _ (e.trans e2)
theorem Out.imp {G:Gx} {Hi H:Hp} {α:Type} {r:Res α} {k k':α->Hp->Hp->Prop} (h:Out G Hi H r k) (f:∀ a Hi' H',Ext Hi H Hi' H'->k a Hi' H'->k' a Hi' H'):Out G Hi H r k':=by
 cases r with
 | no=>exact h
 | err c=>exact h
 | ok a=>exact fun Hi1 H1 e=>f a Hi1 H1 e (h Hi1 H1 e)
theorem Out.here {G:Gx} {Hi H:Hp} {α:Type} {a:α} {k:α->Hp->Hp->Prop} (h:Out G Hi H (.ok a) k) (s:Same Hi H):k a Hi H:=h Hi H (Ext.refl s)
def tD (X:Cx) (G:Gx) (f:Ev):TE:=fun σ H Q=>∃ ρ Hi,jI X G Hi H σ ρ/\Out G Hi H (f ρ) fun d Hi' H'=>∀ v,IsD X.K Hi' v d->Q v H'
def zGj (K:PySem.W.Frag) (H Hi' H':Hp) (a:Addr) (ds:List D):Prop:=H a=none/\Hi' a=none/\∃ xs,H' a=some (.lst xs)/\IsDs K Hi' xs ds
def tF (X:Cx) (G:Gx) (f:Fv):TE:=fun σ H Q=>∃ ρ Hi,jI X G Hi H σ ρ/\Out G Hi H (f ρ) fun ds Hi' H'=>∀ a,zGj X.K H Hi' H' a ds->Q (.ref a) H'
def tTb (X:Cx) (G:Gx) (f:Tv):TT:=fun σ H Q=>∃ ρ Hi,jI X G Hi H σ ρ/\Out G Hi H (f ρ) fun b _ H'=>Q b H'
def tAs (X:Cx) (G:Gx) (f:Fv):TA:=fun σ H Q=>∃ ρ Hi,jI X G Hi H σ ρ/\Out G Hi H (f ρ) fun ds Hi' H'=>∀ vs,IsDs X.K Hi' vs ds->Q vs H'
def Fin (X:Cx) (G:Gx) (Hi:Hp) (E:Ends) (r:Res Fl):Prop:=match r with
 | .ok (.nx ρ')=>∀ σ' Hi' H',Same Hi Hi'->jI X G Hi' H' σ' ρ'->E.nx σ' H'
 | .ok (.brk ρ')=>∀ σ' Hi' H',Same Hi Hi'->jI X G Hi' H' σ' ρ'->E.bk σ' H'
 | .ok (.ctn ρ')=>∀ σ' Hi' H',Same Hi Hi'->jI X G Hi' H' σ' ρ'->E.ct σ' H'
 | .ok (.ret (.v d))=>∀ v Hi' H',Ext G.Bi G.B Hi' H'->IsD X.K Hi' v d->E.rt v H'
 | .ok (.ret (.f ds))=>∀ a Hi' H',Ext G.Bi G.B Hi' H'->zGj X.K G.B Hi' H' a ds->E.rt (.ref a) H'
 | .err c=>∀ Hi' H',Ext G.Bi G.B Hi' H'->G.E c H'
 | .no=>False
theorem Fin.mono {X:Cx} {G:Gx} {Hi Hi':Hp} {E:Ends} {r:Res Fl} (h:Fin X G Hi E r) (s:Same Hi Hi'):Fin X G Hi' E r:=by
 cases r with
 | no=>exact h
 | err c=>exact h
 | ok f=>
  cases f with
  | nx ρ=>exact fun σ' Hi2 H2 s2=>h σ' Hi2 H2 (s.trans s2)
  | brk ρ=>exact fun σ' Hi2 H2 s2=>h σ' Hi2 H2 (s.trans s2)
  | ctn ρ=>exact fun σ' Hi2 H2 s2=>h σ' Hi2 H2 (s.trans s2)
  | ret r=>cases r<;>exact h
def tS (X:Cx) (G:Gx) (f:Sv):TS:=fun E σ H=>∃ ρ Hi,jI X G Hi H σ ρ/\Fin X G Hi E (f ρ)
@[irreducible] def PEd (X:Cx) (G:Gx) (e:Expr) (f:Ev):Prop:=PE X e (tD X G f)
unseal PEd
@[irreducible] def PEf (X:Cx) (G:Gx) (e:Expr) (f:Fv):Prop:=PE X e (tF X G f)
unseal PEf
@[irreducible] def PTd (X:Cx) (G:Gx) (e:Expr) (f:Tv):Prop:=PT X e (tTb X G f)
unseal PTd
@[irreducible] def PWd (X:Cx) (G:Gx) (e:Expr) (f:Tv):Prop:=PW X e (tTb X G f)
unseal PWd
@[irreducible] def PAd (X:Cx) (G:Gx) (es:List Expr) (f:Fv):Prop:=PA X es (tAs X G f)
unseal PAd
@[irreducible] def PSd (X:Cx) (G:Gx) (s:Stmt) (f:Sv):Prop:=PS X s (tS X G f)
unseal PSd
@[irreducible] def eX (X:Cx) (G:Gx) (s:List Stmt) (f:Sv):Prop:=PSs X s (tS X G f)
unseal eX
theorem PE.wk {X:Cx} {e:Expr} {t t':TE} (h:PE X e t) (w:∀ σ H Q,t' σ H Q->t σ H Q):PE X e t':=fun pins s σ H Q I q=>h pins s σ H Q I (w σ H Q q)
theorem PT.wk {X:Cx} {e:Expr} {t t':TT} (h:PT X e t) (w:∀ σ H Q,t' σ H Q->t σ H Q):PT X e t':=fun pins s σ H Q I q=>h pins s σ H Q I (w σ H Q q)
theorem PW.wk {X:Cx} {e:Expr} {t t':TT} (h:PW X e t) (w:∀ σ H Q,t' σ H Q->t σ H Q):PW X e t':=fun wh pins s σ H Q I q=>h wh pins s σ H Q I (w σ H Q q)
theorem PA.wk {X:Cx} {es:List Expr} {t t':TA} (h:PA X es t) (w:∀ σ H Q,t' σ H Q->t σ H Q):PA X es t':=fun pos pins s σ H Q I q=>h pos pins s σ H Q I (w σ H Q q)
theorem PS.wk {X:Cx} {s:Stmt} {t t':TS} (h:PS X s t) (w:∀ E σ H,t' E σ H->t E σ H):PS X s t':=fun pins s σ H E I q=>h pins s σ H E I (w E σ H q)
theorem PSs.wk {X:Cx} {s:List Stmt} {t t':TS} (h:PSs X s t) (w:∀ E σ H,t' E σ H->t E σ H):PSs X s t':=fun pins s σ H E I q=>h pins s σ H E I (w E σ H q)
section
variable {X:Cx} {G:Gx} {a b e:Expr} {es:List Expr} {pos:Pos} {f g:Ev}
theorem aB (i:Nat) (h:PE X e (zBQ i)):PEd X G e (aJ i):=PE.wk h fun σ H Q q=>by
 obtain ⟨ρ,Hi,R,o⟩:=q
 unfold aJ at o
 cases z:ρ[i]? with
 | none=>rw [z] at o;exact o.elim
 | some s=>
  rw [z] at o
  cases s with
  | val d=>
   obtain ⟨v,p,r⟩:=R.slot i _ z
   exact ⟨v,p,o.here R.s v r⟩
  | un=>exact o.elim
  | own ds=>exact o.elim
  | exc c=>exact o.elim
  | tab T=>exact o.elim
theorem aP {v:V} {d:D} (h:PE X e (tC v)) (r:∀ H,IsD X.K H v d):PEd X G e (eC d):=PE.wk h fun σ H Q q=>by
 obtain ⟨ρ,Hi,R,o⟩:=q
 exact o.here R.s v (r Hi)
theorem zCy {Hi H:Hp} {σ:St} {ρ:Rho} {β:Type} {k:D->Res β} {k':β->Hp->Hp->Prop} {Q:VK} (R:jI X G Hi H σ ρ) (o:Out G Hi H ((f ρ).bind k) k')
  (w:∀ v d Hi' H',Ext Hi H Hi' H'->jI X G Hi' H' σ ρ->IsD X.K Hi' v d->Out G Hi' H' (k d) k'->Q v H'):tD X G f σ H Q:=
 ⟨ρ,Hi,R,o.bind.imp fun d Hi' H' e q v r=>w v d Hi' H' e (R.grow e) r q⟩
def OpK (X:Cx) (r:R2) (o:Op2):Prop:=(∀ a b c,o a b≠.err c)/\∀ (Hi H:Hp) (x y:V) (a b d:D) (Q:VK),Same Hi H->IsD X.K Hi x a->IsD X.K Hi y b->o a b=.ok d->
 (∀ v Hi' H',Ext Hi H Hi' H'->IsD X.K Hi' v d->Q v H')->r x y H Q
theorem op2 {r:R2} {o:Op2} (k:OpK X r o):∀ σ H Q,tD X G (eOp o f g) σ H Q->tOp r (tD X G f) (tD X G g) σ H Q:=fun σ H Q q=>by
 obtain ⟨ρ,Hi,R,ou⟩:=q
 refine zCy R ou fun v d Hi1 H1 e1 R1 r1 o1=>?_
 refine zCy R1 o1 fun w d' Hi2 H2 e2 R2 r2 o2=>?_
 cases z:o d d' with
 | no=>rw [z] at o2;exact o2.elim
 | err c=>exact absurd z (k.1 d d' c)
 | ok u=>
  rw [z] at o2
  exact k.2 Hi2 H2 v w d d' u Q R2.s (r1.mono e2.i) r2 z fun x Hi3 H3 e3 r3=>o2 Hi3 H3 e3 x r3
theorem aU {op:Operator} {r:R2} {o:Op2} (ho:OpR X (binaryOp op) r) (k:OpK X r o) (ha:PEd X G a f) (hb:PEd X G b g):PEd X G (.BinOp a op b pos) (eOp o f g):=PE.wk (zEn ho ha hb) (op2 k)
theorem zCC {op:CmpOp} {r:R2} {o:Op2} (ho:OpR X (compareOp op) r) (k:OpK X r o) (ha:PEd X G a f) (hb:PEd X G b g) (hm:behindInMarks op b=false):PEd X G (.Compare a [op] [b] pos) (eOp o f g):=PE.wk (zIi ho ha hb hm) (op2 k)
theorem aQ {r:R2} {o:Op2} (ho:IxR X r) (k:OpK X r o) (ha:PEd X G a f) (hb:PEd X G b g) (hs:zBB b):PEd X G (.Subscript a b pos) (eOp o f g):=PE.wk (zDb ho ha hb hs) (op2 k)
theorem tst {op:CmpOp} {r:R2} {o:Op2} (ho:OpR X (compareOp op) r) (k:OpK X r o) (ha:PEd X G a f) (hb:PEd X G b g) (hm:behindInMarks op b=false):PTd X G (.Compare a [op] [b] pos) (gF (eOp o f g)):=
 PT.wk (zFw ho ha hb hm) fun σ H Q q=>by
  obtain ⟨ρ,Hi,R,ou⟩:=q
  refine op2 k σ H _ ⟨ρ,Hi,R,ou.bind.imp fun d Hi' H' e o v r=>?_⟩
  cases d with
  | bl c=>rw [r.blI];exact ⟨c,rfl,o.here e.s⟩
  | _=>exact o.elim
theorem zHO (h:PEd X G a f) (he:∀ whole,isTrue a X.env whole=(do let v <-whole;standAt a.pos;holding [v] (truthy v)):=by intro _;rfl):PTd X G a (gF f):=PT.wk (zKB h he) fun σ H Q q=>by
 obtain ⟨ρ,Hi,R,ou⟩:=q
 refine ⟨ρ,Hi,R,ou.bind.imp fun d Hi' H' e o v r=>?_⟩
 cases d with
 | bl c=>rw [r.blI];exact ⟨c,rfl,o.here e.s⟩
 | _=>exact o.elim
variable {t u:Tv}
theorem zMd {Hi H:Hp} {σ:St} {ρ:Rho} {β:Type} {k:Bool->Res β} {k':β->Hp->Hp->Prop} {Q:Bool->Hp->Prop} (R:jI X G Hi H σ ρ) (o:Out G Hi H ((t ρ).bind k) k')
  (w:∀ c Hi' H',Ext Hi H Hi' H'->jI X G Hi' H' σ ρ->Out G Hi' H' (k c) k'->Q c H'):tTb X G t σ H Q:=
 ⟨ρ,Hi,R,o.bind.imp fun d Hi' H' e q=>w d Hi' H' e (R.grow e) q⟩
theorem zNJ (h:PTd X G a t):PTd X G (.UnaryOp .Not a pos) (zGo t):=PT.wk (zLK h) fun σ H Q q=>by
 obtain ⟨ρ,Hi,R,ou⟩:=q
 exact zMd R ou fun c Hi1 H1 e1 R1 o1=>o1.here R1.s
theorem zDL (h:PTd X G a t):PWd X G (.BoolOp .And [a] pos) t:=zJG h
theorem zMG (h:PTd X G a t):PWd X G (.BoolOp .Or [a] pos) t:=zKQ h
theorem zIJ {rest:List Expr} (ha:PTd X G a t) (hb:PWd X G (.BoolOp .And (b::rest) pos) u):PWd X G (.BoolOp .And (a::b::rest) pos) (zCR t u):=PW.wk (zKf ha hb) fun σ H Q q=>by
 obtain ⟨ρ,Hi,R,ou⟩:=q
 refine zMd R ou fun c Hi1 H1 e1 R1 o1=>?_
 cases c with
 | true=>exact ⟨ρ,Hi1,R1,o1⟩
 | false=>exact o1.here R1.s
theorem zOm {rest:List Expr} (ha:PTd X G a t) (hb:PWd X G (.BoolOp .Or (b::rest) pos) u):PWd X G (.BoolOp .Or (a::b::rest) pos) (zMe t u):=PW.wk (zMC ha hb) fun σ H Q q=>by
 obtain ⟨ρ,Hi,R,ou⟩:=q
 refine zMd R ou fun c Hi1 H1 e1 R1 o1=>?_
 cases c with
 | true=>exact o1.here R1.s
 | false=>exact ⟨ρ,Hi1,R1,o1⟩
theorem PWd.pt {e:Expr} (h:PWd X G e t):PTd X G e t:=PW.pt h
theorem zKt {op} (h:PEd X G a f):PEd X G (.BoolOp op [a] pos) f:=zLu h
theorem zMS {rest:List Expr} (ha:PEd X G a f) (hb:PEd X G (.BoolOp .Or (b::rest) pos) g):PEd X G (.BoolOp .Or (a::b::rest) pos) (eOr f g):=PE.wk (zNl ha hb) fun σ H Q q=>by
 obtain ⟨ρ,Hi,R,ou⟩:=q
 refine zCy R ou fun v d Hi1 H1 e1 R1 r1 o1=>?_
 cases d with
 | bl c=>
  refine ⟨c,r1.blI,?_⟩
  cases c with
  | true=>exact o1.here R1.s _ (.bl true)
  | false=>exact ⟨ρ,Hi1,R1,o1⟩
 | _=>exact o1.elim
theorem rL (ha:PEd X G a f):PEd X G (.UnaryOp .USub a pos) (eUn zGO f):=PE.wk (zNb zLi ha) fun σ H Q q=>by
 obtain ⟨ρ,Hi,R,ou⟩:=q
 refine zCy R ou fun v d Hi1 H1 e1 R1 r1 o1=>?_
 cases d with
 | int c=>exact ⟨c,r1.intI,o1.here R1.s _ (.int _)⟩
 | _=>exact o1.elim
theorem zKY {c:Expr} (hc:PTd X G c t) (ha:PEd X G a f) (hb:PEd X G b g):PEd X G (.IfExp c a b pos) (eIf t f g):=PE.wk (zGS hc ha hb) fun σ H Q q=>by
 obtain ⟨ρ,Hi,R,ou⟩:=q
 refine zMd R ou fun c Hi1 H1 e1 R1 o1=>?_
 cases c with
 | true=>exact ⟨ρ,Hi1,R1,o1⟩
 | false=>exact ⟨ρ,Hi1,R1,o1⟩
variable {fs:Fv}
theorem aF:PAd X G [] aNil:=PA.wk pX fun σ H Q q=>by
 obtain ⟨ρ,Hi,R,ou⟩:=q
 exact ou.here R.s [] .nil
theorem aA (ha:PEd X G e f) (hr:PAd X G es fs) (hs:starEach (e::es) X.env=(false,eval e X.env)::starEach es X.env:=by rfl):PAd X G (e::es) (aE f fs):=PA.wk (jN ha hr hs) fun σ H Q q=>by
 obtain ⟨ρ,Hi,R,ou⟩:=q
 refine zCy R ou fun v d Hi1 H1 e1 R1 r1 o1=>?_
 refine ⟨ρ,Hi1,R1,o1.bind.imp fun ds Hi2 H2 e2 o2 vs rs=>?_⟩
 exact o2.here e2.s _ (.cons (r1.mono e2.i) rs)
theorem zFW {Hi H:Hp} {σ:St} {ρ:Rho} {β:Type} {k:List D->Res β} {k':β->Hp->Hp->Prop} {Q:List V->Hp->Prop} (R:jI X G Hi H σ ρ) (o:Out G Hi H ((fs ρ).bind k) k')
  (w:∀ vs ds Hi' H',Ext Hi H Hi' H'->jI X G Hi' H' σ ρ->IsDs X.K Hi' vs ds->Out G Hi' H' (k ds) k'->Q vs H'):tAs X G fs σ H Q:=
 ⟨ρ,Hi,R,o.bind.imp fun d Hi' H' e q v r=>w v d Hi' H' e (R.grow e) r q⟩
theorem nV {x1} (h:PAd X G es fs):PEd X G (.Tuple es x1 pos) (zFb fs):=PE.wk (zKN h) fun σ H Q q=>by
 obtain ⟨ρ,Hi,R,ou⟩:=q
 refine zFW R ou fun vs ds Hi1 H1 e1 R1 r1 o1=>?_
 by_cases hz:ds.length<=16777216
 ·rw [if_pos hz] at o1
  refine ⟨by rw [r1.length];exact hz,fun p hp=>?_⟩
  exact o1 _ _ (Ext.new R1.s hp) (.ref p) (.tup (SqT.of aZ) (r1.mono (cV (R1.s.none hp) _)))
 ·rw [if_neg hz] at o1;exact o1.elim
theorem bT (h:PAd X G es fs):PEf X G (.List es pos) (jX fs):=PE.wk (zKL h) fun σ H Q q=>by
 obtain ⟨ρ,Hi,R,ou⟩:=q
 refine zFW R ou fun vs ds Hi1 H1 e1 R1 r1 o1=>?_
 by_cases hz:ds.length<=16777216
 ·rw [if_pos hz] at o1
  refine ⟨by rw [r1.length];exact hz,fun p hp=>?_⟩
  exact o1 _ _ (Ext.newF R1.s hp) p ⟨e1.h.none hp,R1.s.none hp,vs,aZ,r1⟩
 ·rw [if_neg hz] at o1;exact o1.elim
theorem PEf.d (h:PEf X G e fs):PEd X G e (eF fs):=PE.wk h fun σ H Q q=>by
 obtain ⟨ρ,Hi,R,ou⟩:=q
 refine ⟨ρ,Hi,R,?_⟩
 cases z:fs ρ with
 | no=>unfold eF at ou;rw [z] at ou;exact ou
 | err c=>unfold eF at ou;rw [z] at ou;exact ou
 | ok ds=>
  unfold eF at ou;rw [z] at ou
  intro Hi1 H1 e1 a n
  obtain ⟨n1,n2,xs,n3,n4⟩:=n
  have ou':∀ Hi' H',Ext Hi H Hi' H'->∀ v,IsD X.K Hi' v (.lst ds)->Q v H':=ou
  exact ou' _ _ (e1.hold n1 n3 n2) (.ref a) (.lst (SqL.of aZ) (n4.mono (cV n2 _)))
theorem PEd.frz (h:PEd X G e f):PEd X G e (zMk f):=PE.wk h fun σ H Q q=>by
 obtain ⟨ρ,Hi,R,ou⟩:=q
 obtain ⟨Hf,s1,R1,fl⟩:=R.frz
 refine ⟨ρ.map Sl.frz,Hf,R1,?_⟩
 unfold zMk at ou
 cases z:f (ρ.map Sl.frz) with
 | no=>rw [z] at ou;exact ou
 | err c=>
  rw [z] at ou
  intro Hi1 H1 e1
  have ou':∀ Hi' H',Ext Hi H Hi' H'->G.E c H':=ou
  obtain ⟨Ht,e2,k,s2,n⟩:=Ext.thaw s1 fl R1.s e1
  exact ou' Ht H1 e2
 | ok d=>
  rw [z] at ou
  by_cases hz:noL d=true
  ·have ou':Out G Hi H (if noL d=true then Res.ok d else .no) _:=ou
   rw [if_pos hz] at ou'
   intro Hi1 H1 e1 v r
   obtain ⟨Ht,e2,k,s2,n⟩:=Ext.thaw s1 fl R1.s e1
   exact ou' Ht H1 e2 v (r.noL k hz)
  ·have ou':Out G Hi H (if noL d=true then Res.ok d else .no) _:=ou
   rw [if_neg hz] at ou';exact ou'.elim
end
end L3
namespace L3
open PySem PySem.Spec PyProof.Rows L2
unseal PEd PEf PTd PWd PAd PSd eX
section
variable {X:Cx} {G:Gx} {a b e:Expr} {es:List Expr} {pos:Pos} {f g:Ev} {fs:Fv} {t u:Tv}
theorem OpR.or {o:Value->Value->Sem Value} {r r':R2} (h:OpR X o r) (h':OpR X o r'):OpR X o (fun x y H Q=>r x y H Q∨r' x y H Q):=by
 intro pins s σ H x y v u Q I rx ry q
 rcases q with q | q
 ·exact h pins s σ H x y v u Q I rx ry q
 ·exact h' pins s σ H x y v u Q I rx ry q
theorem zLT {o:Op2} {h:Int->Int->Int} (hi:∀ i j,o (.int i) (.int j)=.ok (.int (h i j))) (hn:∀ a b d,o a b=.ok d->∃ i j,a=.int i/\b=.int j) (he:∀ a b c,o a b≠.err c):OpK X (rI0 fun i j=>.int (h i j)) o:=
 ⟨he,fun Hi H x y a b d Q s r1 r2 z q=>by
  obtain ⟨i,j,rfl,rfl⟩:=hn a b d z
  rw [hi] at z;cases z
  exact ⟨i,j,r1.intI,r2.intI,q _ Hi H (Ext.refl s) (.int _)⟩⟩
theorem zHM {o:Op2} {h:Int->Int->Bool} (hi:∀ i j,o (.int i) (.int j)=.ok (.bl (h i j))) (hn:∀ a b d,o a b=.ok d->∃ i j,a=.int i/\b=.int j) (he:∀ a b c,o a b≠.err c):OpK X (rI0 fun i j=>.bl (h i j)) o:=
 ⟨he,fun Hi H x y a b d Q s r1 r2 z q=>by
  obtain ⟨i,j,rfl,rfl⟩:=hn a b d z
  rw [hi] at z;cases z
  exact ⟨i,j,r1.intI,r2.intI,q _ Hi H (Ext.refl s) (.bl _)⟩⟩
theorem sG:OpK X (rI0 fun i j=>.int (i - j)) uB:=zLT (fun _ _=>rfl) (fun a b d z=>by unfold uB at z;split at z<;>first | exact ⟨_,_,rfl,rfl⟩ | cases z) (fun a b c z=>by unfold uB at z;split at z<;>cases z)
theorem zIk:OpK X (rI0 fun i j=>.bl (decide (i < j))) oLt:=zHM (fun _ _=>rfl) (fun a b d z=>by unfold oLt at z;split at z<;>first | exact ⟨_,_,rfl,rfl⟩ | cases z) (fun a b c z=>by unfold oLt at z;split at z<;>cases z)
theorem zMh:OpK X (rI0 fun i j=>.bl (decide (j < i))) oGt:=zHM (fun _ _=>rfl) (fun a b d z=>by unfold oGt at z;split at z<;>first | exact ⟨_,_,rfl,rfl⟩ | cases z) (fun a b c z=>by unfold oGt at z;split at z<;>cases z)
theorem zGs {o:Op2} {C:Int->Int->Prop} {h:Int->Int->Int} (hn:∀ a b d,o a b=.ok d->∃ i j,a=.int i/\b=.int j/\C i j/\d=.int (h i j)) (he:∀ a b c,o a b≠.err c):OpK X (rI C fun i j=>.int (h i j)) o:=
 ⟨he,fun Hi H x y a b d Q s r1 r2 z q=>by
  obtain ⟨i,j,rfl,rfl,hc,rfl⟩:=hn a b d z
  exact ⟨i,j,r1.intI,r2.intI,hc,q _ Hi H (Ext.refl s) (.int _)⟩⟩
def zKo (i j:Int):Prop:=iV i j=true
theorem bR:OpR X (binaryOp .Mult) (rI zKo fun i j=>.int (i * j)):=opI fun i j _ _ _ _ _ hc q=>by
 have hc':iV i j=true:=hc
 unfold iV at hc'
 simp only [Bool.or_eq_true,Bool.and_eq_true,decide_eq_true_eq] at hc'
 rcases hc' with (⟨h1,h2⟩ | ⟨h1,h2⟩) | h
 ·exact mul_int q (zMc.ok (.inl ⟨h1,h2⟩))
 ·exact mul_int q (zMc.ok (.inr ⟨h1,h2⟩))
 ·exact mul_int q (PySem.IntMulOk.of_le (PySem.intBits_le_iff.mpr (zJM i)) (PySem.intBits_le_iff.mpr (zJM j)) h)
def zKx (_ j:Int):Prop:=kB j=true
theorem cX:OpR X (binaryOp .FloorDiv) (rI zKx fun i j=>.int (i.fdiv j)):=opI fun i j _ _ _ _ _ hc q=>by
 have hc':kB j=true:=hc
 unfold kB at hc'
 simp only [Bool.and_eq_true,decide_eq_true_eq] at hc'
 refine floordiv_int hc'.1 q (.inl (PyProof.noPylong_of_log2 ?_))
 have h2:=hc'.2
 unfold nb at h2
 omega
def zLI (i j:Int):Prop:=qE i j=true
theorem sO:OpR X (binaryOp .Pow) (rI zLI fun i j=>.int (i^j.toNat)):=opI fun i j _ _ _ _ _ hc q=>by
 have hc':qE i j=true:=hc
 unfold qE at hc'
 simp only [Bool.and_eq_true,decide_eq_true_eq] at hc'
 refine pow_int hc'.1 (Int.le_trans (Int.mul_le_mul_of_nonneg_right ?_ hc'.1) hc'.2) q
 have:=PySem.intBits_le_iff.mpr (zJM i)
 omega
theorem gE:OpK X (rI zKo fun i j=>.int (i * j)) mZ:=zGs (fun a b d z=>by
 unfold mZ at z
 split at z
 case h_2=>cases z
 rename_i i j
 have z':(if iV i j=true then Res.ok (D.int (i * j)) else .no)=.ok d:=z
 by_cases h:iV i j=true
 ·rw [if_pos h] at z';cases z';exact ⟨i,j,rfl,rfl,h,rfl⟩
 ·rw [if_neg h] at z';cases z') (fun a b c z=>by
 unfold mZ at z
 split at z
 case h_2=>cases z
 rename_i i j
 have z':(if iV i j=true then Res.ok (D.int (i * j)) else .no)=.err c:=z
 by_cases h:iV i j=true
 ·rw [if_pos h] at z';cases z'
 ·rw [if_neg h] at z';cases z')
theorem jU:OpK X (rI zKx fun i j=>.int (i.fdiv j)) rC:=zGs (fun a b d z=>by
 unfold rC at z
 split at z
 case h_2=>cases z
 rename_i i j
 have z':(if kB j=true then Res.ok (D.int (i.fdiv j)) else .no)=.ok d:=z
 by_cases h:kB j=true
 ·rw [if_pos h] at z';cases z';exact ⟨i,j,rfl,rfl,h,rfl⟩
 ·rw [if_neg h] at z';cases z') (fun a b c z=>by
 unfold rC at z
 split at z
 case h_2=>cases z
 rename_i i j
 have z':(if kB j=true then Res.ok (D.int (i.fdiv j)) else .no)=.err c:=z
 by_cases h:kB j=true
 ·rw [if_pos h] at z';cases z'
 ·rw [if_neg h] at z';cases z')
theorem gX:OpK X (rI (fun _ j=>j≠0) fun i j=>.int (i.fmod j)) oM:=zGs (fun a b d z=>by
 unfold oM at z
 split at z
 case h_2=>cases z
 rename_i i j
 have z':(if j≠0 then Res.ok (D.int (i.fmod j)) else .no)=.ok d:=z
 by_cases h:j≠0
 ·rw [if_pos h] at z';cases z';exact ⟨i,j,rfl,rfl,h,rfl⟩
 ·rw [if_neg h] at z';cases z') (fun a b c z=>by
 unfold oM at z
 split at z
 case h_2=>cases z
 rename_i i j
 have z':(if j≠0 then Res.ok (D.int (i.fmod j)) else .no)=.err c:=z
 by_cases h:j≠0
 ·rw [if_pos h] at z';cases z'
 ·rw [if_neg h] at z';cases z')
theorem zEv:OpK X (rI zLI fun i j=>.int (i^j.toNat)) zGL:=zGs (fun a b d z=>by
 unfold zGL at z
 split at z
 case h_2=>cases z
 rename_i i j
 have z':(if qE i j=true then Res.ok (D.int (i^j.toNat)) else .no)=.ok d:=z
 by_cases h:qE i j=true
 ·rw [if_pos h] at z';cases z';exact ⟨i,j,rfl,rfl,h,rfl⟩
 ·rw [if_neg h] at z';cases z') (fun a b c z=>by
 unfold zGL at z
 split at z
 case h_2=>cases z
 rename_i i j
 have z':(if qE i j=true then Res.ok (D.int (i^j.toNat)) else .no)=.err c:=z
 by_cases h:qE i j=true
 ·rw [if_pos h] at z';cases z'
 ·rw [if_neg h] at z';cases z')
def zLV (K:PySem.W.Frag):R2:=fun x y H Q=>∃ a b ys,x=.ref a/\y=.ref b/\SqT K H a []/\SqT K H b ys/\Q (.ref b) H
theorem zJv:OpR X (binaryOp .Add) (zLV X.K):=by
 intro pins s σ H x y v u Q I rx ry h
 obtain ⟨a,b,ys,rfl,rfl,ha,hb,q⟩:=h
 cases rx
 cases ry
 obtain ⟨its,r1,p1,_⟩:=I.tuple ha
 obtain ⟨its2,r2,p2,_⟩:=I.tuple hb
 cases r1
 obtain ⟨⟨c1,d1,t1,s1⟩,ho1,hc1,n1,hd1⟩:=id p1
 obtain ⟨⟨c2,d2,t2,s2⟩,ho2,hc2,n2,hd2⟩:=id p2
 simp only at hc1 hd1 hc2 hd2
 subst hc1 hd1 hc2 hd2
 exact concat_meets ⟨_,ho1,rfl⟩ ⟨_,ho2,rfl⟩ noFill_tuple_add seq_tuple_add PySem.F.slot_tuple_add PySem.F.entry_tuple_add (PySem.F.args_tuple_add_2 _ _) (tuple_addW0 a b #[] its2.toArray n1 n2 d1 d2 s1 s2 rfl) ⟨ho1,ho2,⟨.ref b,H,I,rfl,q⟩⟩
def zLJ (K:PySem.W.Frag):R2:=fun x y H Q=>rI0 (fun i j=>.int (i+j)) x y H Q∨(zLs K x y H Q∨zLV K x y H Q)
theorem fG:OpR X (binaryOp .Add) (zLJ X.K):=OpR.or zKk (OpR.or zIZ zJv)
theorem pL:OpK X (zLJ X.K) zK:=⟨fun a b c z=>(by
  unfold zK at z
  split at z
  case h_1=>cases z
  case h_3=>cases z
  rename_i as bs
  have z':(if as.length+bs.length<=16777216 then Res.ok (D.tup (as++bs)) else .no)=.err c:=z
  split at z'<;>cases z'),fun Hi H x y a b d Q s r1 r2 z q=>by
  unfold zK at z
  split at z
  case h_3=>cases z
  ·cases z
   exact .inl ⟨_,_,r1.intI,r2.intI,q _ Hi H (Ext.refl s) (.int _)⟩
  ·rename_i as bs
   have z':(if as.length+bs.length<=16777216 then Res.ok (D.tup (as++bs)) else .no)=.ok d:=z
   split at z'
   ·rename_i hz
    cases z'
    obtain ⟨p,xs,rfl,h1,i1⟩:=r1.tupI
    obtain ⟨p',ys,rfl,h2,i2⟩:=r2.tupI
    by_cases h0:as.length=0
    ·have e0:as=[]:=List.eq_nil_of_length_eq_zero h0
     subst e0
     cases i1
     exact .inr (.inr ⟨p,p',ys,rfl,rfl,bY s h1,bY s h2,q _ Hi H (Ext.refl s) (.tup h2 i2)⟩)
    refine .inr (.inl ⟨p,p',xs,ys,rfl,rfl,bY s h1,bY s h2,fun e=>h0 (by rw [<-i1.length,e];rfl),by rw [i1.length,i2.length];exact hz,fun e=>?_,fun _ l hl=>?_⟩)
    ·subst e
     cases i2
     rw [List.append_nil] at q
     exact q _ Hi H (Ext.refl s) (.tup h1 i1)
    ·exact q _ _ _ (Ext.new s hl) (.tup (SqT.of aZ) ((i1.append i2).mono (cV (s.none hl) _)))
   ·cases z'⟩
theorem zJJ {α:Type} {xs:List α} {i:Int} {v:α} (h0:i < 0) (h1:0<=(xs.length:Int)+i) (h:xs[((xs.length:Int)+i).toNat]?=some v):atI xs i=some v:=by
 have e:ixN xs.length i=some ((xs.length:Int)+i).toNat:=by
  unfold ixN
  rw [if_neg (by omega),if_pos (by omega)]
  congr 2
  omega
 unfold atI;rw [e];exact h
theorem zEz {K:PySem.W.Frag} {H:Hp} {xs:List V} {ds:List D} {i:Int} {d:D} (h:IsDs K H xs ds) (e:atD ds i=some d):∃ v,atI xs i=some v/\IsD K H v d:=by
 unfold atD at e
 by_cases h0:0<=i
 ·rw [if_pos h0] at e
  obtain ⟨v,hv,r⟩:=h.at e
  refine ⟨v,?_,r⟩
  have:=zBw hv
  rw [show ((i.toNat:Nat):Int)=i by omega] at this
  exact this
 ·rw [if_neg h0] at e
  by_cases h1:0<=(ds.length:Int)+i
  ·rw [if_pos h1] at e
   obtain ⟨v,hv,r⟩:=h.at e
   refine ⟨v,?_,r⟩
   have hl:=h.length
   have e2:((ds.length:Int)+i).toNat=((xs.length:Int)+i).toNat:=by rw [hl]
   rw [e2] at hv
   exact zJJ (by omega) (by omega) hv
  ·rw [if_neg h1] at e;cases e
theorem bO:OpK X (fun x y H Q=>zMi X.K x y H Q∨zMg X.K x y H Q) oIx:=⟨fun a b c z=>(by
  unfold oIx at z
  split at z
  case h_3=>cases z
  ·rename_i ds i
   have z':ofO (atD ds i)=Res.err c:=z
   cases q:atD ds i<;>rw [q] at z'<;>cases z'
  ·rename_i ds i
   have z':ofO (atD ds i)=Res.err c:=z
   cases q:atD ds i<;>rw [q] at z'<;>cases z'),fun Hi H x y a b d Q s r1 r2 z q=>by
  unfold oIx at z
  split at z
  case h_3=>cases z
  ·rename_i ds i
   have z':ofO (atD ds i)=Res.ok d:=z
   cases w:atD ds i with
   | none=>rw [w] at z';cases z'
   | some d'=>
    rw [w] at z';cases z'
    obtain ⟨p,xs,rfl,h1,i1⟩:=r1.tupI
    obtain ⟨v,hv,r⟩:=zEz i1 w
    exact .inr ⟨p,xs,i,v,rfl,r2.intI,bY s h1,hv,q v Hi H (Ext.refl s) r⟩
  ·rename_i ds i
   have z':ofO (atD ds i)=Res.ok d:=z
   cases w:atD ds i with
   | none=>rw [w] at z';cases z'
   | some d'=>
    rw [w] at z';cases z'
    obtain ⟨p,xs,rfl,h1,i1⟩:=r1.lstI
    obtain ⟨v,hv,r⟩:=zEz i1 w
    exact .inl ⟨p,xs,i,v,rfl,r2.intI,cQ s h1,hv,q v Hi H (Ext.refl s) r⟩⟩
theorem aI:IxR X (fun x y H Q=>zMi X.K x y H Q∨zMg X.K x y H Q):=zJQ.or zKU
end
end L3
namespace L3
open PySem PySem.Spec PyProof.Rows L2
unseal PEd PEf PTd PWd PAd PSd eX
section
variable {X:Cx} {pins:List (Addr×Obj)} {σ:St} {H:Hp} {s:Shared}
mutual
theorem IsD.inj (I:Inv X pins σ H s):∀ {v:V} {d e:D},IsD X.K H v d->IsD X.K H v e->d=e
 | _,_,_,.non,h=>by cases h;rfl
 | _,_,_,.bl b,h=>by cases h;rfl
 | _,_,_,.int i,h=>by cases h;rfl
 | _,_,_,.str x,h=>by cases h;rfl
 | _,_,_,.tup h hs,h2=>by
  cases h2 with
  | tup h' hs'=>
   have e:=I.tuple_inj h h'
   subst e
   rw [IsDs.inj I hs hs']
  | lst h' hs'=>
   exfalso
   obtain ⟨_,_,⟨o,e,c,_⟩,_⟩:=I.tuple h
   obtain ⟨_,_,⟨o',n',e',c',_⟩,_⟩:=I.list h'
   rw [e] at e';cases e';rw [c] at c';exact absurd c' (by decide)
 | _,_,_,.lst h hs,h2=>by
  cases h2 with
  | lst h' hs'=>
   have e:=I.list_inj h h'
   subst e
   rw [IsDs.inj I hs hs']
  | tup h' hs'=>
   exfalso
   obtain ⟨_,_,⟨o,e,c,_⟩,_⟩:=I.tuple h'
   obtain ⟨_,_,⟨o',n',e',c',_⟩,_⟩:=I.list h
   rw [e] at e';cases e';rw [c] at c';exact absurd c' (by decide)
theorem IsDs.inj (I:Inv X pins σ H s):∀ {vs:List V} {ds es:List D},IsDs X.K H vs ds->IsDs X.K H vs es->ds=es
 | _,_,_,.nil,h=>by cases h;rfl
 | _,_,_,.cons h hs,h2=>by
  cases h2 with
  | cons h' hs'=>rw [IsD.inj I h h',IsDs.inj I hs hs']
end
theorem zEG {α:Type} {l:List α} {j:Nat} {x d:α} (h:l[j]?=some x):l.getD j d=x:=by
 rw [List.getD_eq_getElem?_getD,h];rfl
theorem lB {A:Around} {xs xs':List V} {ds ds':List D} {its its':List Value} (hs:IsDs X.K H xs ds) (hs':IsDs X.K H xs' ds') (rv:dG xs its) (rv':dG xs' its')
  (rc:∀ (d d':D) (v v':V) (u u':Value),d∈ds->IsD X.K H v d->IsD X.K H v' d'->cY v u->cY v' u'->SeqAt.EqAt A s u u' (eqD d d'))
  (j:Nat) (g1:j < its.toArray.size) (g2:j < its'.toArray.size):SeqAt.EqAt A s its.toArray[j] its'.toArray[j] (eqD (ds.getD j .non) (ds'.getD j .non)):=by
 have g1':j < its.length:=by simpa using g1
 have g2':j < its'.length:=by simpa using g2
 have l1:its.length=ds.length:=by rw [<-rv.length,hs.length]
 have l2:its'.length=ds'.length:=by rw [<-rv'.length,hs'.length]
 obtain ⟨d,hd⟩:∃ d,ds[j]?=some d:=⟨_,List.getElem?_eq_getElem (by omega)⟩
 obtain ⟨d',hd'⟩:∃ d,ds'[j]?=some d:=⟨_,List.getElem?_eq_getElem (by omega)⟩
 obtain ⟨v,hv,iv⟩:=hs.at hd
 obtain ⟨v',hv',iv'⟩:=hs'.at hd'
 obtain ⟨w1,hw,rw1⟩:=rv.get hv
 obtain ⟨w2,hw',rw2⟩:=rv'.get hv'
 have e1:its.toArray[j]=w1:=by
  rw [List.getElem?_eq_getElem g1'] at hw
  simpa using hw
 have e2:its'.toArray[j]=w2:=by
  rw [List.getElem?_eq_getElem g2'] at hw'
  simpa using hw'
 rw [e1,e2,zEG hd,zEG hd']
 exact rc d d' v v' w1 w2 (List.mem_of_getElem? hd) iv iv' rw1 rw2
theorem hZ {ds ds':List D} (h:ds.length=ds'.length):((List.range ds.length).all fun j=>eqD (ds.getD j .non) (ds'.getD j .non))=zEy ds ds':=by
 rw [lG,<-h,Nat.min_self];simp
theorem wU {ds ds':List D} (h:ds.length≠ds'.length):zEy ds ds'=false:=by
 rw [lG];simp [h]
theorem yV (I:Inv X pins σ H s) {A:Around} {v v':V} {d d':D} {u u':Value} (h1:IsD X.K H v d) (h2:IsD X.K H v' d') (r1:cY v u) (r2:cY v' u') (hu:A.units < cLine)
  (rc:∀ ds,(d=.tup ds∨d=.lst ds)->∀ (e e':D) (w w':V) (z z':Value),e∈ds->IsD X.K H w e->IsD X.K H w' e'->cY w z->cY w' z'->SeqAt.EqAt A.in1 s z z' (eqD e e')):
  SeqAt.EqAt A s u u' (eqD d d'):=by
 cases h1 with
 | non=>
  cases (show u=Value.none from r1)
  cases h2 with
  | non=>cases (show u'=Value.none from r2);exact SeqAt.EqAt.same _
  | bl b=>cases (show u'=Value.bool _ from r2);exact SeqAt.EqAt.none_bool _
  | int i=>obtain ⟨t,rfl⟩:=r2;exact SeqAt.EqAt.none_int _ _
  | str x=>obtain ⟨t,rfl⟩:=r2;exact SeqAt.EqAt.none_str _ _
  | tup h hs=>cases (show u'=Value.ref _ from r2);obtain ⟨its,rv,p,hz⟩:=I.tuple h;exact SeqAt.EqAt.none_tuple (show s.heap.IsTuple _ its.toArray from p) hu
  | lst h hs=>cases (show u'=Value.ref _ from r2);obtain ⟨its,rv,p,hz⟩:=I.list h;exact SeqAt.EqAt.none_list p.isList hu
 | bl b=>
  cases (show u=Value.bool _ from r1)
  cases h2 with
  | non=>cases (show u'=Value.none from r2);exact SeqAt.EqAt.bool_none _
  | bl b=>cases (show u'=Value.bool _ from r2);exact SeqAt.EqAt.bool_bool _ _
  | int i=>obtain ⟨t,rfl⟩:=r2;exact SeqAt.EqAt.bool_int _ _ _
  | str x=>obtain ⟨t,rfl⟩:=r2;exact SeqAt.EqAt.bool_str _ _ _
  | tup h hs=>cases (show u'=Value.ref _ from r2);obtain ⟨its,rv,p,hz⟩:=I.tuple h;exact SeqAt.EqAt.bool_tuple _ (show s.heap.IsTuple _ its.toArray from p) hu
  | lst h hs=>cases (show u'=Value.ref _ from r2);obtain ⟨its,rv,p,hz⟩:=I.list h;exact SeqAt.EqAt.bool_list _ p.isList hu
 | int i=>
  obtain ⟨t,rfl⟩:=r1
  cases h2 with
  | non=>cases (show u'=Value.none from r2);exact SeqAt.EqAt.int_none _ _
  | bl b=>cases (show u'=Value.bool _ from r2);exact SeqAt.EqAt.int_bool _ _ _
  | int i=>obtain ⟨t,rfl⟩:=r2;exact SeqAt.EqAt.int_int _ _ _ _
  | str x=>obtain ⟨t,rfl⟩:=r2;exact SeqAt.EqAt.int_str _ _ _ _
  | tup h hs=>cases (show u'=Value.ref _ from r2);obtain ⟨its,rv,p,hz⟩:=I.tuple h;exact SeqAt.EqAt.int_tuple _ _ (show s.heap.IsTuple _ its.toArray from p) hu
  | lst h hs=>cases (show u'=Value.ref _ from r2);obtain ⟨its,rv,p,hz⟩:=I.list h;exact SeqAt.EqAt.int_list _ _ p.isList hu
 | str x=>
  obtain ⟨t,rfl⟩:=r1
  cases h2 with
  | non=>cases (show u'=Value.none from r2);exact SeqAt.EqAt.str_none _ _
  | bl b=>cases (show u'=Value.bool _ from r2);exact SeqAt.EqAt.str_bool _ _ _
  | int i=>obtain ⟨t,rfl⟩:=r2;exact SeqAt.EqAt.str_int _ _ _ _
  | str x=>obtain ⟨t,rfl⟩:=r2;exact SeqAt.EqAt.str_str _ _ _ _
  | tup h hs=>cases (show u'=Value.ref _ from r2);obtain ⟨its,rv,p,hz⟩:=I.tuple h;exact SeqAt.EqAt.str_tuple _ _ (show s.heap.IsTuple _ its.toArray from p) hu
  | lst h hs=>cases (show u'=Value.ref _ from r2);obtain ⟨its,rv,p,hz⟩:=I.list h;exact SeqAt.EqAt.str_list _ _ p.isList hu
 | @tup a xs ds h hs=>
  cases (show u=Value.ref a from r1)
  obtain ⟨its,rv,p,hz⟩:=I.tuple h
  cases h2 with
  | non=>cases (show u'=Value.none from r2);exact SeqAt.EqAt.tuple_none (show s.heap.IsTuple _ its.toArray from p) hu
  | bl b=>cases (show u'=Value.bool _ from r2);exact SeqAt.EqAt.tuple_bool _ (show s.heap.IsTuple _ its.toArray from p) hu
  | int i=>obtain ⟨t,rfl⟩:=r2;exact SeqAt.EqAt.tuple_int _ _ (show s.heap.IsTuple _ its.toArray from p) hu
  | str x=>obtain ⟨t,rfl⟩:=r2;exact SeqAt.EqAt.tuple_str _ _ (show s.heap.IsTuple _ its.toArray from p) hu
  | @tup a' xs' ds' h' hs'=>
   cases (show u'=Value.ref a' from r2)
   by_cases e:a=a'
   ·subst e
    have e:=I.tuple_inj h h'
    subst e
    have e:=IsDs.inj I hs hs'
    subst e
    rw [nN]
    exact SeqAt.EqAt.same _
   ·obtain ⟨its',rv',p',hz'⟩:=I.tuple h'
    have l1:its.toArray.size=ds.length:=by rw [List.size_toArray,<-rv.length,hs.length]
    have l2:its'.toArray.size=ds'.length:=by rw [List.size_toArray,<-rv'.length,hs'.length]
    have key:=SeqAt.RcAt.tuples (A:=A) (s:=s) (show s.heap.IsTuple a its.toArray from p) (show s.heap.IsTuple a' its'.toArray from p') hu
     (lB (A:=A.in1) (s:=s) hs hs' rv rv' fun d d' v v' u u' hm iv iv' r r'=>rc ds (.inl rfl) d d' v v' u u' hm iv iv' r r')
    rw [l1,l2,<-lG] at key
    exact SeqAt.EqAt.of_refs e key
  | @lst a' xs' ds' h' hs'=>
   cases (show u'=Value.ref a' from r2)
   obtain ⟨its',rv',p',hz'⟩:=I.list h'
   exact SeqAt.EqAt.tuple_list (show s.heap.IsTuple _ its.toArray from p) p'.isList hu
 | @lst a xs ds h hs=>
  cases (show u=Value.ref a from r1)
  obtain ⟨its,rv,p,hz⟩:=I.list h
  cases h2 with
  | non=>cases (show u'=Value.none from r2);exact SeqAt.EqAt.list_none p.isList hu
  | bl b=>cases (show u'=Value.bool _ from r2);exact SeqAt.EqAt.list_bool _ p.isList hu
  | int i=>obtain ⟨t,rfl⟩:=r2;exact SeqAt.EqAt.list_int _ _ p.isList hu
  | str x=>obtain ⟨t,rfl⟩:=r2;exact SeqAt.EqAt.list_str _ _ p.isList hu
  | @tup a' xs' ds' h' hs'=>
   cases (show u'=Value.ref a' from r2)
   obtain ⟨its',rv',p',hz'⟩:=I.tuple h'
   exact SeqAt.EqAt.list_tuple p.isList (show s.heap.IsTuple _ its'.toArray from p') hu
  | @lst a' xs' ds' h' hs'=>
   cases (show u'=Value.ref a' from r2)
   by_cases e:a=a'
   ·subst e
    have e:=I.list_inj h h'
    subst e
    have e:=IsDs.inj I hs hs'
    subst e
    rw [nN]
    exact SeqAt.EqAt.same _
   ·obtain ⟨its',rv',p',hz'⟩:=I.list h'
    have l1:its.toArray.size=ds.length:=by rw [List.size_toArray,<-rv.length,hs.length]
    have l2:its'.toArray.size=ds'.length:=by rw [List.size_toArray,<-rv'.length,hs'.length]
    by_cases hl:ds.length=ds'.length
    ·have key:=SeqAt.RcAt.lists (A:=A) (s:=s) p.isList p'.isList (by rw [l1,l2,hl]) hu
      (lB (A:=A.in1) (s:=s) hs hs' rv rv' fun d d' v v' u u' hm iv iv' r r'=>rc ds (.inr rfl) d d' v v' u u' hm iv iv' r r')
     rw [l1,hZ hl] at key
     exact SeqAt.EqAt.of_refs e key
    ·have key:=SeqAt.RcAt.lists_lengths (A:=A) (s:=s) p.isList p'.isList (by rw [l1,l2];simp [hl]) hu
     rw [eqD,wU hl]
     exact SeqAt.EqAt.of_refs e key
theorem zEU (I:Inv X pins σ H s) (n:Nat):∀ {v v':V} {d d':D},dep d<=n->IsD X.K H v d->IsD X.K H v' d'->
  ∀ (A:Around) (u u':Value),A.units+n < cLine->cY v u->cY v' u'->SeqAt.EqAt A s u u' (eqD d d'):=by
 induction n with
 | zero=>
  intro v v' d d' hn h1 h2 A u u' hu r1 r2
  refine yV I h1 h2 r1 r2 (by omega) fun ds hd=>?_
  rcases hd with rfl | rfl<;>(rw [dep] at hn;omega)
 | succ n ih=>
  intro v v' d d' hn h1 h2 A u u' hu r1 r2
  refine yV I h1 h2 r1 r2 (by omega) fun ds hd e e' w w' z z' hm i1 i2 q1 q2=>?_
  refine ih ?_ i1 i2 A.in1 z z' (by show A.units+1+n < cLine;omega) q1 q2
  have:=rA hm
  rcases hd with rfl | rfl<;>(rw [dep] at hn;omega)
theorem zFt (I:Inv X pins σ H s) {A:Around} {v v':V} {d d':D} {u u':Value} (h1:IsD X.K H v d) (h2:IsD X.K H v' d') (r1:cY v u) (r2:cY v' u') (hu:A.units < cLine)
  (rc:∀ ds,(d=.tup ds∨d=.lst ds)->∀ (e e':D) (w w':V) (z z':Value),e∈ds->IsD X.K H w e->IsD X.K H w' e'->cY w z->cY w' z'->SeqAt.EqAt A.in1 s z z' (eqD e e')):
  SeqAt.RcAt A s u u' (eqD d d'):=by
 cases h1 with
 | non=>
  cases (show u=Value.none from r1)
  cases h2 with
  | non=>cases (show u'=Value.none from r2);exact SeqAt.RcAt.none_none
  | bl b=>cases (show u'=Value.bool _ from r2);exact SeqAt.RcAt.none_bool _
  | int i=>obtain ⟨t,rfl⟩:=r2;exact SeqAt.RcAt.none_int _ _
  | str x=>obtain ⟨t,rfl⟩:=r2;exact SeqAt.RcAt.none_str _ _
  | tup h hs=>cases (show u'=Value.ref _ from r2);obtain ⟨its,rv,p,hz⟩:=I.tuple h;exact SeqAt.RcAt.none_tuple (show s.heap.IsTuple _ its.toArray from p) hu
  | lst h hs=>cases (show u'=Value.ref _ from r2);obtain ⟨its,rv,p,hz⟩:=I.list h;exact SeqAt.RcAt.none_list p.isList hu
 | bl b=>
  cases (show u=Value.bool _ from r1)
  cases h2 with
  | non=>cases (show u'=Value.none from r2);exact SeqAt.RcAt.bool_none _
  | bl b=>cases (show u'=Value.bool _ from r2);exact SeqAt.RcAt.bool_bool _ _
  | int i=>obtain ⟨t,rfl⟩:=r2;exact SeqAt.RcAt.bool_int _ _ _
  | str x=>obtain ⟨t,rfl⟩:=r2;exact SeqAt.RcAt.bool_str _ _ _
  | tup h hs=>cases (show u'=Value.ref _ from r2);obtain ⟨its,rv,p,hz⟩:=I.tuple h;exact SeqAt.RcAt.bool_tuple _ (show s.heap.IsTuple _ its.toArray from p) hu
  | lst h hs=>cases (show u'=Value.ref _ from r2);obtain ⟨its,rv,p,hz⟩:=I.list h;exact SeqAt.RcAt.bool_list _ p.isList hu
 | int i=>
  obtain ⟨t,rfl⟩:=r1
  cases h2 with
  | non=>cases (show u'=Value.none from r2);exact SeqAt.RcAt.int_none _ _
  | bl b=>cases (show u'=Value.bool _ from r2);exact SeqAt.RcAt.int_bool _ _ _
  | int i=>obtain ⟨t,rfl⟩:=r2;exact SeqAt.RcAt.int_int _ _ _ _
  | str x=>obtain ⟨t,rfl⟩:=r2;exact SeqAt.RcAt.int_str _ _ _ _
  | tup h hs=>cases (show u'=Value.ref _ from r2);obtain ⟨its,rv,p,hz⟩:=I.tuple h;exact SeqAt.RcAt.int_tuple _ _ (show s.heap.IsTuple _ its.toArray from p) hu
  | lst h hs=>cases (show u'=Value.ref _ from r2);obtain ⟨its,rv,p,hz⟩:=I.list h;exact SeqAt.RcAt.int_list _ _ p.isList hu
 | str x=>
  obtain ⟨t,rfl⟩:=r1
  cases h2 with
  | non=>cases (show u'=Value.none from r2);exact SeqAt.RcAt.str_none _ _
  | bl b=>cases (show u'=Value.bool _ from r2);exact SeqAt.RcAt.str_bool _ _ _
  | int i=>obtain ⟨t,rfl⟩:=r2;exact SeqAt.RcAt.str_int _ _ _ _
  | str x=>obtain ⟨t,rfl⟩:=r2;exact SeqAt.RcAt.str_str _ _ _ _
  | tup h hs=>cases (show u'=Value.ref _ from r2);obtain ⟨its,rv,p,hz⟩:=I.tuple h;exact SeqAt.RcAt.str_tuple _ _ (show s.heap.IsTuple _ its.toArray from p) hu
  | lst h hs=>cases (show u'=Value.ref _ from r2);obtain ⟨its,rv,p,hz⟩:=I.list h;exact SeqAt.RcAt.str_list _ _ p.isList hu
 | @tup a xs ds h hs=>
  cases (show u=Value.ref a from r1)
  obtain ⟨its,rv,p,hz⟩:=I.tuple h
  cases h2 with
  | non=>cases (show u'=Value.none from r2);exact SeqAt.RcAt.tuple_none (show s.heap.IsTuple _ its.toArray from p) hu
  | bl b=>cases (show u'=Value.bool _ from r2);exact SeqAt.RcAt.tuple_bool _ (show s.heap.IsTuple _ its.toArray from p) hu
  | int i=>obtain ⟨t,rfl⟩:=r2;exact SeqAt.RcAt.tuple_int _ _ (show s.heap.IsTuple _ its.toArray from p) hu
  | str x=>obtain ⟨t,rfl⟩:=r2;exact SeqAt.RcAt.tuple_str _ _ (show s.heap.IsTuple _ its.toArray from p) hu
  | @tup a' xs' ds' h' hs'=>
   cases (show u'=Value.ref a' from r2)
   ·obtain ⟨its',rv',p',hz'⟩:=I.tuple h'
    have l1:its.toArray.size=ds.length:=by rw [List.size_toArray,<-rv.length,hs.length]
    have l2:its'.toArray.size=ds'.length:=by rw [List.size_toArray,<-rv'.length,hs'.length]
    have key:=SeqAt.RcAt.tuples (A:=A) (s:=s) (show s.heap.IsTuple a its.toArray from p) (show s.heap.IsTuple a' its'.toArray from p') hu
     (lB (A:=A.in1) (s:=s) hs hs' rv rv' fun d d' v v' u u' hm iv iv' r r'=>rc ds (.inl rfl) d d' v v' u u' hm iv iv' r r')
    rw [l1,l2,<-lG] at key
    exact key
  | @lst a' xs' ds' h' hs'=>
   cases (show u'=Value.ref a' from r2)
   obtain ⟨its',rv',p',hz'⟩:=I.list h'
   exact SeqAt.RcAt.tuple_list (show s.heap.IsTuple _ its.toArray from p) p'.isList hu
 | @lst a xs ds h hs=>
  cases (show u=Value.ref a from r1)
  obtain ⟨its,rv,p,hz⟩:=I.list h
  cases h2 with
  | non=>cases (show u'=Value.none from r2);exact SeqAt.RcAt.list_none p.isList hu
  | bl b=>cases (show u'=Value.bool _ from r2);exact SeqAt.RcAt.list_bool _ p.isList hu
  | int i=>obtain ⟨t,rfl⟩:=r2;exact SeqAt.RcAt.list_int _ _ p.isList hu
  | str x=>obtain ⟨t,rfl⟩:=r2;exact SeqAt.RcAt.list_str _ _ p.isList hu
  | @tup a' xs' ds' h' hs'=>
   cases (show u'=Value.ref a' from r2)
   obtain ⟨its',rv',p',hz'⟩:=I.tuple h'
   exact SeqAt.RcAt.list_tuple p.isList (show s.heap.IsTuple _ its'.toArray from p') hu
  | @lst a' xs' ds' h' hs'=>
   cases (show u'=Value.ref a' from r2)
   ·obtain ⟨its',rv',p',hz'⟩:=I.list h'
    have l1:its.toArray.size=ds.length:=by rw [List.size_toArray,<-rv.length,hs.length]
    have l2:its'.toArray.size=ds'.length:=by rw [List.size_toArray,<-rv'.length,hs'.length]
    by_cases hl:ds.length=ds'.length
    ·have key:=SeqAt.RcAt.lists (A:=A) (s:=s) p.isList p'.isList (by rw [l1,l2,hl]) hu
      (lB (A:=A.in1) (s:=s) hs hs' rv rv' fun d d' v v' u u' hm iv iv' r r'=>rc ds (.inr rfl) d d' v v' u u' hm iv iv' r r')
     rw [l1,hZ hl] at key
     exact key
    ·have key:=SeqAt.RcAt.lists_lengths (A:=A) (s:=s) p.isList p'.isList (by rw [l1,l2];simp [hl]) hu
     rw [eqD,wU hl]
     exact key
theorem zFo (I:Inv X pins σ H s) {A:Around} {v v':V} {d d':D} {u u':Value} (h1:IsD X.K H v d) (h2:IsD X.K H v' d') (r1:cY v u) (r2:cY v' u') (hu:A.units < cLine)
  (rc:∀ ds,(d=.tup ds∨d=.lst ds)->∀ (e e':D) (w w':V) (z z':Value),e∈ds->IsD X.K H w e->IsD X.K H w' e'->cY w z->cY w' z'->SeqAt.EqAt A.in1 s z z' (eqD e e')):
  SeqAt.RcNeAt A s u u' (!eqD d d'):=by
 cases h1 with
 | non=>
  cases (show u=Value.none from r1)
  cases h2 with
  | non=>cases (show u'=Value.none from r2);exact SeqAt.RcNeAt.none_none
  | bl b=>cases (show u'=Value.bool _ from r2);exact SeqAt.RcNeAt.none_bool _
  | int i=>obtain ⟨t,rfl⟩:=r2;exact SeqAt.RcNeAt.none_int _ _
  | str x=>obtain ⟨t,rfl⟩:=r2;exact SeqAt.RcNeAt.none_str _ _
  | tup h hs=>cases (show u'=Value.ref _ from r2);obtain ⟨its,rv,p,hz⟩:=I.tuple h;exact SeqAt.RcNeAt.none_tuple (show s.heap.IsTuple _ its.toArray from p) hu
  | lst h hs=>cases (show u'=Value.ref _ from r2);obtain ⟨its,rv,p,hz⟩:=I.list h;exact SeqAt.RcNeAt.none_list p.isList hu
 | bl b=>
  cases (show u=Value.bool _ from r1)
  cases h2 with
  | non=>cases (show u'=Value.none from r2);exact SeqAt.RcNeAt.bool_none _
  | bl b=>cases (show u'=Value.bool _ from r2);exact SeqAt.RcNeAt.bool_bool _ _
  | int i=>obtain ⟨t,rfl⟩:=r2;exact SeqAt.RcNeAt.bool_int _ _ _
  | str x=>obtain ⟨t,rfl⟩:=r2;exact SeqAt.RcNeAt.bool_str _ _ _
  | tup h hs=>cases (show u'=Value.ref _ from r2);obtain ⟨its,rv,p,hz⟩:=I.tuple h;exact SeqAt.RcNeAt.bool_tuple _ (show s.heap.IsTuple _ its.toArray from p) hu
  | lst h hs=>cases (show u'=Value.ref _ from r2);obtain ⟨its,rv,p,hz⟩:=I.list h;exact SeqAt.RcNeAt.bool_list _ p.isList hu
 | int i=>
  obtain ⟨t,rfl⟩:=r1
  cases h2 with
  | non=>cases (show u'=Value.none from r2);exact SeqAt.RcNeAt.int_none _ _
  | bl b=>cases (show u'=Value.bool _ from r2);exact SeqAt.RcNeAt.int_bool _ _ _
  | int i=>obtain ⟨t,rfl⟩:=r2;exact SeqAt.RcNeAt.int_int _ _ _ _
  | str x=>obtain ⟨t,rfl⟩:=r2;exact SeqAt.RcNeAt.int_str _ _ _ _
  | tup h hs=>cases (show u'=Value.ref _ from r2);obtain ⟨its,rv,p,hz⟩:=I.tuple h;exact SeqAt.RcNeAt.int_tuple _ _ (show s.heap.IsTuple _ its.toArray from p) hu
  | lst h hs=>cases (show u'=Value.ref _ from r2);obtain ⟨its,rv,p,hz⟩:=I.list h;exact SeqAt.RcNeAt.int_list _ _ p.isList hu
 | str x=>
  obtain ⟨t,rfl⟩:=r1
  cases h2 with
  | non=>cases (show u'=Value.none from r2);exact SeqAt.RcNeAt.str_none _ _
  | bl b=>cases (show u'=Value.bool _ from r2);exact SeqAt.RcNeAt.str_bool _ _ _
  | int i=>obtain ⟨t,rfl⟩:=r2;exact SeqAt.RcNeAt.str_int _ _ _ _
  | str x=>obtain ⟨t,rfl⟩:=r2;exact SeqAt.RcNeAt.str_str _ _ _ _
  | tup h hs=>cases (show u'=Value.ref _ from r2);obtain ⟨its,rv,p,hz⟩:=I.tuple h;exact SeqAt.RcNeAt.str_tuple _ _ (show s.heap.IsTuple _ its.toArray from p) hu
  | lst h hs=>cases (show u'=Value.ref _ from r2);obtain ⟨its,rv,p,hz⟩:=I.list h;exact SeqAt.RcNeAt.str_list _ _ p.isList hu
 | @tup a xs ds h hs=>
  cases (show u=Value.ref a from r1)
  obtain ⟨its,rv,p,hz⟩:=I.tuple h
  cases h2 with
  | non=>cases (show u'=Value.none from r2);exact SeqAt.RcNeAt.tuple_none (show s.heap.IsTuple _ its.toArray from p) hu
  | bl b=>cases (show u'=Value.bool _ from r2);exact SeqAt.RcNeAt.tuple_bool _ (show s.heap.IsTuple _ its.toArray from p) hu
  | int i=>obtain ⟨t,rfl⟩:=r2;exact SeqAt.RcNeAt.tuple_int _ _ (show s.heap.IsTuple _ its.toArray from p) hu
  | str x=>obtain ⟨t,rfl⟩:=r2;exact SeqAt.RcNeAt.tuple_str _ _ (show s.heap.IsTuple _ its.toArray from p) hu
  | @tup a' xs' ds' h' hs'=>
   cases (show u'=Value.ref a' from r2)
   ·obtain ⟨its',rv',p',hz'⟩:=I.tuple h'
    have l1:its.toArray.size=ds.length:=by rw [List.size_toArray,<-rv.length,hs.length]
    have l2:its'.toArray.size=ds'.length:=by rw [List.size_toArray,<-rv'.length,hs'.length]
    have key:=SeqAt.RcNeAt.tuples (A:=A) (s:=s) (show s.heap.IsTuple a its.toArray from p) (show s.heap.IsTuple a' its'.toArray from p') hu
     (lB (A:=A.in1) (s:=s) hs hs' rv rv' fun d d' v v' u u' hm iv iv' r r'=>rc ds (.inl rfl) d d' v v' u u' hm iv iv' r r')
    rw [l1,l2,<-lG] at key
    exact key
  | @lst a' xs' ds' h' hs'=>
   cases (show u'=Value.ref a' from r2)
   obtain ⟨its',rv',p',hz'⟩:=I.list h'
   exact SeqAt.RcNeAt.tuple_list (show s.heap.IsTuple _ its.toArray from p) p'.isList hu
 | @lst a xs ds h hs=>
  cases (show u=Value.ref a from r1)
  obtain ⟨its,rv,p,hz⟩:=I.list h
  cases h2 with
  | non=>cases (show u'=Value.none from r2);exact SeqAt.RcNeAt.list_none p.isList hu
  | bl b=>cases (show u'=Value.bool _ from r2);exact SeqAt.RcNeAt.list_bool _ p.isList hu
  | int i=>obtain ⟨t,rfl⟩:=r2;exact SeqAt.RcNeAt.list_int _ _ p.isList hu
  | str x=>obtain ⟨t,rfl⟩:=r2;exact SeqAt.RcNeAt.list_str _ _ p.isList hu
  | @tup a' xs' ds' h' hs'=>
   cases (show u'=Value.ref a' from r2)
   obtain ⟨its',rv',p',hz'⟩:=I.tuple h'
   exact SeqAt.RcNeAt.list_tuple p.isList (show s.heap.IsTuple _ its'.toArray from p') hu
  | @lst a' xs' ds' h' hs'=>
   cases (show u'=Value.ref a' from r2)
   ·obtain ⟨its',rv',p',hz'⟩:=I.list h'
    have l1:its.toArray.size=ds.length:=by rw [List.size_toArray,<-rv.length,hs.length]
    have l2:its'.toArray.size=ds'.length:=by rw [List.size_toArray,<-rv'.length,hs'.length]
    by_cases hl:ds.length=ds'.length
    ·have key:=SeqAt.RcNeAt.lists (A:=A) (s:=s) p.isList p'.isList (by rw [l1,l2,hl]) hu
      (lB (A:=A.in1) (s:=s) hs hs' rv rv' fun d d' v v' u u' hm iv iv' r r'=>rc ds (.inr rfl) d d' v v' u u' hm iv iv' r r')
     rw [l1,hZ hl] at key
     exact key
    ·have key:=SeqAt.RcNeAt.lists_lengths (A:=A) (s:=s) p.isList p'.isList (by rw [l1,l2];simp [hl]) hu
     rw [eqD,wU hl]
     exact key
theorem eqA {X:Cx} (hu:X.A.units+64 < cLine):OpR X (compareOp .Eq) (fun x y H Q=>∃ d d',IsD X.K H x d/\IsD X.K H y d'/\dep d<=50/\Q (.bl (eqD d d')) H):=by
 intro pins s σ H x y v u Q I rx ry h
 obtain ⟨d,d',h1,h2,hn,q⟩:=h
 refine zFt I h1 h2 rx ry (by omega) (fun ds hd e e' w w' z z' hm i1 i2 q1 q2=>?_) X.prog X.w X.xe _ ⟨.bl _,H,I,rfl,q⟩
 refine zEU I 50 ?_ i1 i2 X.A.in1 z z' (by show X.A.units+1+50 < cLine;omega) q1 q2
 have:=rA hm
 rcases hd with rfl | rfl<;>(rw [dep] at hn;omega)
theorem neA {X:Cx} (hu:X.A.units+64 < cLine):OpR X (compareOp .NotEq) (fun x y H Q=>∃ d d',IsD X.K H x d/\IsD X.K H y d'/\dep d<=50/\Q (.bl (!eqD d d')) H):=by
 intro pins s σ H x y v u Q I rx ry h
 obtain ⟨d,d',h1,h2,hn,q⟩:=h
 refine zFo I h1 h2 rx ry (by omega) (fun ds hd e e' w w' z z' hm i1 i2 q1 q2=>?_) X.prog X.w X.xe _ ⟨.bl _,H,I,rfl,q⟩
 refine zEU I 50 ?_ i1 i2 X.A.in1 z z' (by show X.A.units+1+50 < cLine;omega) q1 q2
 have:=rA hm
 rcases hd with rfl | rfl<;>(rw [dep] at hn;omega)
theorem yA {X:Cx}:OpK X (fun x y H Q=>∃ d d',IsD X.K H x d/\IsD X.K H y d'/\dep d<=50/\Q (.bl (eqD d d')) H) oEq:=⟨fun a b c z=>(by
  unfold oEq at z;split at z<;>cases z),fun Hi H x y a b d Q s r1 r2 z q=>by
  unfold oEq at z
  split at z
  ·rename_i h;cases z;exact ⟨a,b,r1.mono s,r2.mono s,h,q _ Hi H (Ext.refl s) (.bl _)⟩
  ·cases z⟩
theorem zFU {X:Cx}:OpK X (fun x y H Q=>∃ d d',IsD X.K H x d/\IsD X.K H y d'/\dep d<=50/\Q (.bl (!eqD d d')) H) oNe:=⟨fun a b c z=>(by
  unfold oNe at z;split at z<;>cases z),fun Hi H x y a b d Q s r1 r2 z q=>by
  unfold oNe at z
  split at z
  ·rename_i h;cases z;exact ⟨a,b,r1.mono s,r2.mono s,h,q _ Hi H (Ext.refl s) (.bl _)⟩
  ·cases z⟩
open Classical in
def zJV (K:PySem.W.Frag) (H:Hp) (dx:D) (u:Value):Bool:=if ∃ w d,IsD K H w d/\cY w u/\eqD d dx=true then true else false
theorem zFJ (I:Inv X pins σ H s) {dx d:D} {w:V} {u:Value} (h:IsD X.K H w d) (r:cY w u):zJV X.K H dx u=eqD d dx:=by
 unfold zJV
 by_cases e:eqD d dx=true
 ·rw [if_pos ⟨w,d,h,r,e⟩,e]
 ·rw [if_neg]
  ·simpa using e
  ·rintro ⟨w',d',h',r',e'⟩
   have:=r.inj r'
   subst this
   have:=IsD.inj I h h'
   subst this
   exact e e'
theorem zBg (I:Inv X pins σ H s) {dx:D}:∀ {xs:List V} {ds:List D} {us:List Value},IsDs X.K H xs ds->dG xs us->us.any (zJV X.K H dx)=ds.any fun d=>eqD d dx
 | _,_,_,.nil,.nil=>rfl
 | _,_,_,.cons h hs,.cons r t=>by rw [List.any_cons,List.any_cons,zFJ I h r,zBg I hs t]
theorem zAZ (I:Inv X pins σ H s) {A:Around} {dx:D} {x:V} {ux:Value} (hx:IsD X.K H x dx) (rx:cY x ux) (hu:A.units+50 < cLine):∀ {xs:List V} {ds:List D} {us:List Value},IsDs X.K H xs ds->dG xs us->(∀ d∈ds,dep d<=50)->∀ u∈us,SeqAt.EqAt A s u ux (zJV X.K H dx u)
 | _,_,_,.nil,.nil,_=>fun u hu=>by cases hu
 | _,_,_,.cons h hs,.cons r t,f=>fun u hm=>by
  rcases List.mem_cons.mp hm with rfl | hm
  ·rw [zFJ I h r];exact zEU I 50 (f _ List.mem_cons_self) h hx A _ ux hu r rx
  ·exact zAZ I hx rx hu hs t (fun d hd=>f d (List.mem_cons_of_mem _ hd)) u hm
def zNO (K:PySem.W.Frag) (neg:Bool):R2:=fun x y H Q=>∃ d ds,IsD K H x d/\(IsD K H y (.lst ds)∨IsD K H y (.tup ds))/\depS ds<=50/\Q (.bl (if neg=true then !(ds.any fun e=>eqD e d) else ds.any fun e=>eqD e d)) H
theorem inA {X:Cx} (hu:X.A.units+64 < cLine):OpR X (compareOp .In) (zNO X.K false):=by
 intro pins s σ H x y v u Q I rx ry h
 obtain ⟨d,ds,h1,h2,hn,q⟩:=h
 have hd:∀ e∈ds,dep e<=50:=fun e he=>Nat.le_trans (rA he) hn
 rcases h2 with h2 | h2
 ·obtain ⟨a,xs,rfl,hl,hs⟩:=h2.lstI
  cases ry
  obtain ⟨its,rv,p,hz⟩:=I.list hl
  refine SeqAt.in_listAt (zJV X.K H d) p.isList (fun y hy=>zAZ I h1 rx (by show X.A.units+1+50 < cLine;omega) hs rv hd y (by simpa using hy)) ?_
  exact ⟨.bl _,H,I,by rw [List.any_toArray,zBg I hs rv];rfl,q⟩
 ·obtain ⟨a,xs,rfl,hl,hs⟩:=h2.tupI
  cases ry
  obtain ⟨its,rv,p,hz⟩:=I.tuple hl
  refine SeqAt.in_tupleAt (zJV X.K H d) (show s.heap.IsTuple _ its.toArray from p) (fun y hy=>zAZ I h1 rx (by show X.A.units+1+50 < cLine;omega) hs rv hd y (by simpa using hy)) ?_
  exact ⟨.bl _,H,I,by rw [List.any_toArray,zBg I hs rv];rfl,q⟩
theorem zND {X:Cx}:OpK X (zNO X.K false) oIn:=⟨fun a b c z=>(by
  cases b<;>first | cases z | (simp only [oIn] at z;split at z<;>cases z)),fun Hi H x y a b d Q s r1 r2 z q=>by
  cases b<;>first | cases z | skip
  ·rename_i ds
   simp only [oIn] at z
   split at z
   ·rename_i h;cases z;exact ⟨a,ds,r1.mono s,.inr (r2.mono s),h,q _ Hi H (Ext.refl s) (.bl _)⟩
   ·cases z
  ·rename_i ds
   simp only [oIn] at z
   split at z
   ·rename_i h;cases z;exact ⟨a,ds,r1.mono s,.inl (r2.mono s),h,q _ Hi H (Ext.refl s) (.bl _)⟩
   ·cases z⟩
end
end L3
namespace L3
open PySem PySem.Spec PyProof.Rows L2
unseal PEd PEf PTd PWd PAd PSd eX
section
variable {X:Cx} {G:Gx} {a b e:Expr} {es:List Expr} {pos p:Pos} {f g:Ev} {fs gs:Fv} {t u:Tv} {x:Str} {id T:String}
def zAI (X:Cx) (r:List V->Hp->VK->Prop) (o:List D->Res D):Prop:=(∀ a c,o a≠.err c)/\∀ (Hi H:Hp) (vs:List V) (ds:List D) (d:D) (Q:VK),Same Hi H->IsDs X.K Hi vs ds->o ds=.ok d->
 (∀ v Hi' H',Ext Hi H Hi' H'->IsD X.K Hi' v d->Q v H')->r vs H Q
theorem zLq {r:List V->Hp->VK->Prop} {o:List D->Res D} (k:zAI X r o):∀ σ H Q,tD X G (eB o fs) σ H Q->tCB r (tAs X G fs) σ H Q:=fun σ H Q q=>by
 obtain ⟨ρ,Hi,R,ou⟩:=q
 refine zFW R ou fun vs ds Hi1 H1 e1 R1 r1 o1=>?_
 cases z:o ds with
 | no=>rw [z] at o1;exact o1.elim
 | err c=>exact absurd z (k.1 ds c)
 | ok d=>rw [z] at o1;exact k.2 Hi1 H1 vs ds d Q R1.s r1 z fun v Hi2 H2 e2 r2=>o1 Hi2 H2 e2 v r2
theorem bE {r:List V->Hp->VK->Prop} {o:List D->Res D} (hc:uJ X (.builtin id) r) (k:zAI X r o) (hg:Gl X x) (hm:X.mg x=none) (hv:bootBuiltins x=some (.builtin id)) (ha:PAd X G (e::es) fs) (hn:x ≠ "__name__" := by decide) (hdb:(x==("__debug__" : Str))=false:=by decide)
  (he:starEach (e::es) X.env=(false,eval e X.env)::starEach es X.env:=by rfl) (hpl:(backTo pos (starEach es X.env)).any (·.1)=false:=by rfl):PEd X G (.Call (.Name x p) (e::es) [] pos) (eB o fs):=
 PE.wk (vU hc hg hm hv ha hn hdb he hpl) (zLq k)
theorem zAo {r:List V->Hp->VK->Prop} {o:List D->Res D} (hc:uJ X (.type T) r) (k:zAI X r o) (hg:Gl X x) (hm:X.mg x=none) (hv:bootBuiltins x=some (.type T)) (ha:PAd X G (e::es) fs) (hn:x ≠ "__name__" := by decide) (hdb:(x==("__debug__" : Str))=false:=by decide)
  (he:starEach (e::es) X.env=(false,eval e X.env)::starEach es X.env:=by rfl) (hpl:(backTo pos (starEach es X.env)).any (·.1)=false:=by rfl):PEd X G (.Call (.Name x p) (e::es) [] pos) (eB o fs):=
 PE.wk (yB hc hg hm hv ha hn hdb he hpl) (zLq k)
theorem IsDs.one {K:PySem.W.Frag} {H:Hp} {vs:List V} {d:D} (h:IsDs K H vs [d]):∃ v,vs=[v]/\IsD K H v d:=by
 cases h with
 | cons h t=>cases t;exact ⟨_,rfl,h⟩
theorem IsDs.two {K:PySem.W.Frag} {H:Hp} {vs:List V} {d d':D} (h:IsDs K H vs [d,d']):∃ v w,vs=[v,w]/\IsD K H v d/\IsD K H w d':=by
 cases h with
 | cons h t=>obtain ⟨w,rfl,hw⟩:=t.one;exact ⟨_,w,rfl,h,hw⟩
theorem fA:zAI X (fun xs H Q=>∃ p ys,xs=[.ref p]/\(SqL X.K H p ys∨SqT X.K H p ys)/\Q (.int ys.length) H) nA:=⟨fun a c z=>(by
  unfold nA at z;split at z<;>cases z),fun Hi H vs ds d Q s r z q=>by
  unfold nA at z
  split at z
  ·cases z
   obtain ⟨v,rfl,h⟩:=r.one
   obtain ⟨a,xs,rfl,h1,h2⟩:=h.lstI
   refine ⟨a,xs,rfl,.inl (cQ s h1),?_⟩
   rw [h2.length]
   exact q _ Hi H (Ext.refl s) (.int _)
  ·cases z
   obtain ⟨v,rfl,h⟩:=r.one
   obtain ⟨a,xs,rfl,h1,h2⟩:=h.tupI
   refine ⟨a,xs,rfl,.inr (bY s h1),?_⟩
   rw [h2.length]
   exact q _ Hi H (Ext.refl s) (.int _)
  ·cases z⟩
theorem zBS:zAI X (fun xs H Q=>∃ i,xs=[.int i]/\Q (.int (if i < 0 then -i else i)) H) zHX:=⟨fun a c z=>(by
  unfold zHX at z;split at z<;>cases z),fun Hi H vs ds d Q s r z q=>by
  unfold zHX at z
  split at z
  ·cases z
   obtain ⟨v,rfl,h⟩:=r.one
   exact ⟨_,by rw [h.intI],q _ Hi H (Ext.refl s) (.int _)⟩
  ·cases z⟩
theorem zHr:zAI X (fun xs H Q=>∃ p ys,xs=[.ref p]/\((SqL X.K H p ys/\∀ l,H l=none->Q (.ref l) (upd H l (.tup ys)))∨(SqT X.K H p ys/\Q (.ref p) H))) zJi:=⟨fun a c z=>(by
  unfold zJi at z;split at z<;>cases z),fun Hi H vs ds d Q s r z q=>by
  unfold zJi at z
  split at z
  ·cases z
   obtain ⟨v,rfl,h⟩:=r.one
   obtain ⟨a,xs,rfl,h1,h2⟩:=h.lstI
   exact ⟨a,xs,rfl,.inl ⟨cQ s h1,fun l hl=>q _ _ _ (Ext.new s hl) (.tup (SqT.of aZ) (h2.mono (cV (s.none hl) _)))⟩⟩
  ·cases z
   obtain ⟨v,rfl,h⟩:=r.one
   obtain ⟨a,xs,rfl,h1,h2⟩:=h.tupI
   exact ⟨a,xs,rfl,.inr ⟨bY s h1,q _ Hi H (Ext.refl s) (.tup h1 h2)⟩⟩
  ·cases z⟩
theorem oU (hg:Gl X "list") (hm:X.mg "list" = none) (hv:bootBuiltins "list" = some (.type "list")) (ha:PAd X G (e::es) fs)
  (he:starEach (e::es) X.env=(false,eval e X.env)::starEach es X.env:=by rfl) (hpl:(backTo pos (starEach es X.env)).any (·.1)=false:=by rfl):PEf X G (.Call (.Name "list" p) (e::es) [] pos) (zE fs):=
 PE.wk (yB yP hg hm hv ha (by decide) (by decide) he hpl) fun σ H Q q=>by
 obtain ⟨ρ,Hi,R,ou⟩:=q
 refine zFW R ou fun vs ds Hi1 H1 e1 R1 r1 o1=>?_
 split at o1
 ·obtain ⟨v,rfl,h⟩:=r1.one
  obtain ⟨a,xs,rfl,h1,h2⟩:=h.lstI
  exact ⟨a,xs,rfl,.inl (cQ R1.s h1),fun l hl=>o1 _ _ (Ext.newF R1.s hl) l ⟨e1.h.none hl,R1.s.none hl,xs,aZ,h2⟩⟩
 ·obtain ⟨v,rfl,h⟩:=r1.one
  obtain ⟨a,xs,rfl,h1,h2⟩:=h.tupI
  exact ⟨a,xs,rfl,.inr (bY R1.s h1),fun l hl=>o1 _ _ (Ext.newF R1.s hl) l ⟨e1.h.none hl,R1.s.none hl,xs,aZ,h2⟩⟩
 ·exact o1.elim
variable {lo hi:Option Expr} {l h:Ov} {p2:Pos}
def tOv (X:Cx) (G:Gx) (f:Ov):TO:=fun σ H Q=>∃ ρ Hi,jI X G Hi H σ ρ/\Out G Hi H (f ρ) fun o _ H'=>Q o H'
@[irreducible] def POd (X:Cx) (G:Gx) (e:Option Expr) (f:Ov):Prop:=PO X e (tOv X G f)
unseal POd
theorem PO.wk {X:Cx} {e:Option Expr} {t t':TO} (h:PO X e t) (w:∀ σ H Q,t' σ H Q->t σ H Q):PO X e t':=fun pins s σ H Q I q=>h pins s σ H Q I (w σ H Q q)
theorem mH:POd X G none oN:=PO.wk zJq fun σ H Q q=>by
 obtain ⟨ρ,Hi,R,ou⟩:=q
 exact ou.here R.s
theorem jJ (he:PEd X G e f):POd X G (some e) (oS f):=PO.wk (zIF he) fun σ H Q q=>by
 obtain ⟨ρ,Hi,R,ou⟩:=q
 refine zCy R ou fun v d Hi1 H1 e1 R1 r1 o1=>?_
 cases d with
 | int i=>exact ⟨i,r1.intI,o1.here R1.s⟩
 | _=>exact o1.elim
theorem zNP {f:Ov} {Hi H:Hp} {σ:St} {ρ:Rho} {β:Type} {k:Option Int->Res β} {k':β->Hp->Hp->Prop} {Q:Option Int->Hp->Prop} (R:jI X G Hi H σ ρ) (o:Out G Hi H ((f ρ).bind k) k')
  (w:∀ c Hi' H',Ext Hi H Hi' H'->jI X G Hi' H' σ ρ->Out G Hi' H' (k c) k'->Q c H'):tOv X G f σ H Q:=
 ⟨ρ,Hi,R,o.bind.imp fun d Hi' H' e q=>w d Hi' H' e (R.grow e) q⟩
theorem zFO (n d:Nat) (i:Option Int):cut n i d=HT.sIx n d i:=by
 cases i with
 | none=>rfl
 | some i=>
  simp only [cut,HT.sIx]
  split<;>split<;>omega
theorem IsDs.cut {K:PySem.W.Frag} {H:Hp} {xs:List V} {ds:List D} (h:IsDs K H xs ds) (l r:Option Int):IsDs K H (zJY xs l r) (iP ds l r):=by
 unfold zJY iP
 rw [zFO,zFO,h.length]
 exact (h.drop _).take _
theorem iN (he:PEd X G e f) (hl:POd X G lo l) (hu:POd X G hi h):PEf X G (.Subscript e (.Slice lo hi none p2) pos) (fSl f l h):=PE.wk (zGi zJP he hl hu) fun σ H Q q=>by
 obtain ⟨ρ,Hi,R,ou⟩:=q
 refine zCy R ou fun v d Hi1 H1 e1 R1 r1 o1=>?_
 refine zNP R1 o1 fun i Hi2 H2 e2 R2 o2=>?_
 refine zNP R2 o2 fun j Hi3 H3 e3 R3 o3=>?_
 cases d with
 | lst ds=>
  obtain ⟨a,xs,rfl,h1,h2⟩:=r1.lstI
  refine ⟨a,xs,rfl,cQ (e2.i.trans (e3.i.trans R3.s)) h1,fun p hp=>?_⟩
  exact o3 _ _ (Ext.newF R3.s hp) p ⟨(e1.h.trans (e2.h.trans e3.h)).none hp,R3.s.none hp,_,aZ,(h2.cut i j).mono (e2.i.trans e3.i)⟩
 | _=>exact o3.elim
def zNo (K:PySem.W.Frag):R2:=fun x y H Q=>∃ l b xs zs,x=.ref l/\y=.ref b/\SqL K H l xs/\SqL K H b zs/\xs.length+zs.length<=sizeLine/\∀ p,H p=none->Q (.ref p) (upd H p (.lst (xs++zs)))
theorem zJf:OpR X (binaryOp .Add) (zNo X.K):=by
 intro pins s σ H x y v u Q I rx ry h
 obtain ⟨l,b,xs,zs,rfl,rfl,hl,hb,hz,q⟩:=h
 cases rx
 cases ry
 obtain ⟨its,r,p,_⟩:=I.list hl
 obtain ⟨its2,r2,p2,_⟩:=I.list hb
 obtain ⟨⟨cls,dd,data,sl⟩,ho,hc,n,hd⟩:=id p.isList
 obtain ⟨⟨cls2,dd2,data2,sl2⟩,ho2,hc2,n2,hd2⟩:=id p2.isList
 simp only at hc hd hc2 hd2
 subst hc hd hc2 hd2
 have hsz:its.toArray.size+its2.toArray.size<=sizeLine:=by rw [List.size_toArray,List.size_toArray,<-r.length,<-r2.length];exact hz
 have e:its.toArray++its2.toArray=(its++its2).toArray:=by simp
 refine concat_meets ⟨_,ho,rfl⟩ ⟨_,ho2,rfl⟩ noFill_list_add seq_list_add PySem.F.slot_list_add PySem.F.entry_list_add (PySem.F.args_list_add_2 _ _) (list_addW l b its.toArray its2.toArray n n2 dd dd2 sl sl2 hsz) ⟨ho,ho2,?_⟩
 rw [e]
 exact ⟨.ref _,_,I.lnew (t':=s.toks) (r.append r2) (by rw [List.length_append];exact hz),rfl,q _ I.fresh⟩
theorem nD (ha:PEd X G a f) (hb:PEd X G b g):PEf X G (.BinOp a .Add b pos) (zEA f g):=PE.wk (zEn zJf ha hb) fun σ H Q q=>by
 obtain ⟨ρ,Hi,R,ou⟩:=q
 refine zCy R ou fun v d Hi1 H1 e1 R1 r1 o1=>?_
 refine zCy R1 o1 fun w d' Hi2 H2 e2 R2 r2 o2=>?_
 cases d<;>first | exact o2.elim | skip
 cases d'<;>first | exact o2.elim | skip
 rename_i ds es
 obtain ⟨a,xs,rfl,h1,h2⟩:=r1.lstI
 obtain ⟨b,ys,rfl,h3,h4⟩:=r2.lstI
 have o2':Out G Hi2 H2 (if ds.length+es.length<=16777216 then Res.ok (ds++es) else .no) _:=o2
 by_cases hz:ds.length+es.length<=16777216
 ·rw [if_pos hz] at o2'
  refine ⟨a,b,xs,ys,rfl,rfl,cQ (e2.i.trans e2.s) h1,cQ e2.s h3,by rw [h2.length,h4.length];exact hz,fun p hp=>?_⟩
  exact o2' _ _ (Ext.newF e2.s hp) p ⟨(e1.h.trans e2.h).none hp,e2.s.none hp,_,aZ,(h2.mono e2.i).append h4⟩
 ·rw [if_neg hz] at o2';exact o2'.elim
end
end L3
namespace L3
open PySem PySem.Spec PyProof.Rows L2
unseal PEd PEf PTd PWd PAd PSd eX POd
section
variable {X:Cx} {G:Gx} {a b e:Expr} {es:List Expr} {pos p:Pos} {f g:Ev} {fs gs:Fv} {t u:Tv} {x:Str} {st:Stmt} {rest:List Stmt} {sa sb:Sv}
theorem mG {Hi H:Hp} {σ:St} {ρ:Rho} {E:Ends} {α:Type} {r:Res α} {k:α->Res Fl} (R:jI X G Hi H σ ρ) (h:Fin X G Hi E (r.bind k)) {Q:α->Hp->Hp->Prop}
  (w:∀ a Hi' H',r=.ok a->Ext Hi H Hi' H'->Fin X G Hi' E (k a)->Q a Hi' H'):Out G Hi H r Q:=by
 cases r with
 | no=>exact h
 | err c=>exact fun Hi' H' e=>h Hi' H' (R.ext.trans e)
 | ok a=>exact fun Hi' H' e=>w a Hi' H' rfl e (Fin.mono (show Fin X G Hi E (k a) from h) e.i)
theorem bM:eX X G [] sNext:=PSs.wk zJH fun E σ H q=>by
 obtain ⟨ρ,Hi,R,h⟩:=q
 exact h σ Hi H (Same.refl _) R
theorem zLG {E:Ends} {Hi:Hp} {ρ:Rho} (h:Fin X G Hi E (bJ sa sb ρ)):Fin X G Hi { E with nx:=tS X G sb E } (sa ρ):=by
 unfold bJ at h
 cases z:sa ρ with
 | no=>rw [z] at h;exact h
 | err c=>rw [z] at h;exact h
 | ok fl=>
  rw [z] at h
  cases fl with
  | nx ρ'=>exact fun σ' Hi' H' s R'=>⟨ρ',Hi',R',Fin.mono (show Fin X G Hi E (sb ρ') from h) s⟩
  | brk ρ'=>exact h
  | ctn ρ'=>exact h
  | ret r=>cases r<;>exact h
theorem zKw {E:Ends} {σ:St} {H:Hp} (q:tS X G (bJ sa sb) E σ H):tS X G sa { E with nx:=tS X G sb E } σ H:=by
 obtain ⟨ρ,Hi,R,h⟩:=q
 exact ⟨ρ,Hi,R,zLG h⟩
theorem aH (h1:PSd X G st sa) (h2:eX X G rest sb):eX X G (st::rest) (bJ sa sb):=PSs.wk (qM h1 h2) fun _ _ _ q=>zKw q
theorem aM (h1:PSd X G st sa):eX X G [st] sa:=zBu h1
theorem pU (he:PEd X G e f) (hs:swapsWith e none pos.line X.env=pure false:=by rfl):PSd X G (.Expr e pos) (tO f):=PS.wk (zAJ he hs) fun E σ H q=>by
 obtain ⟨ρ,Hi,R,h⟩:=q
 exact ⟨ρ,Hi,R,mG R h fun d Hi' H' _ e h' v r=>h' σ Hi' H' (Same.refl _) (R.grow e)⟩
theorem dH (he:PEd X G e f):PSd X G (.Return (some e) pos) (jD f):=PS.wk (zCA he) fun E σ H q=>by
 obtain ⟨ρ,Hi,R,h⟩:=q
 obtain ⟨Hf,s1,R1,fl⟩:=R.frz
 refine ⟨ρ.map Sl.frz,Hf,R1,mG R1 (Fin.mono h s1) fun d Hi' H' _ e h' v r=>?_⟩
 exact h' v Hi' H' (R1.ext.trans e) r
theorem gA (he:PEf X G e fs):PSd X G (.Return (some e) pos) (jK fs):=PS.wk (zCA he) fun E σ H q=>by
 obtain ⟨ρ,Hi,R,h⟩:=q
 obtain ⟨Hf,s1,R1,fl⟩:=R.frz
 refine ⟨ρ.map Sl.frz,Hf,R1,mG R1 (Fin.mono h s1) fun ds Hi' H' _ e h' a n=>?_⟩
 obtain ⟨n1,n2,xs,n3,n4⟩:=n
 exact h' a Hi' H' (R1.ext.trans e) ⟨R1.ext.h.none n1,n2,xs,n3,n4⟩
theorem jT (i:Nat) (he:PE X e (zBQ i)):PSd X G (.Return (some e) pos) (iG i):=PS.wk (zCA he) fun E σ H q=>by
 obtain ⟨ρ,Hi,R,h⟩:=q
 unfold iG at h
 cases z:ρ[i]? with
 | none=>rw [z] at h;exact h.elim
 | some s=>
  rw [z] at h
  cases s with
  | own ds=>
   obtain ⟨a,xs,p,h1,h2,h3,h4⟩:=R.slot i _ z
   exact ⟨.ref a,p,h a Hi H R.ext ⟨h3,h2,xs,h1,h4⟩⟩
  | un=>exact h.elim
  | val d=>exact h.elim
  | exc c=>exact h.elim
  | tab T=>exact h.elim
theorem jY {c:Expr} {as bs:List Stmt} (hc:PTd X G c t) (ha:eX X G as sa) (hb:eX X G bs sb):PSd X G (.If c as bs pos) (sIf t sa sb):=PS.wk (zMQ hc ha hb) fun E σ H q=>by
 obtain ⟨ρ,Hi,R,h⟩:=q
 refine ⟨ρ,Hi,R,mG R h fun c Hi' H' _ e h'=>?_⟩
 cases c with
 | true=>exact ⟨ρ,Hi',R.grow e,h'⟩
 | false=>exact ⟨ρ,Hi',R.grow e,h'⟩
theorem bH {i:Nat} {pos':Pos} (hN:X.N.Nodup) (hi:X.N[i]?=some x) (hx:Loc X.env.scope x) (he:PEd X G e f) (hs:swapsWith e (some (.Name x pos')) pos.line X.env=pure false:=by rfl)
  (hf:X.fn x=true∨X.env.scope.names.lookup x=some .local:=by first | exact .inl rfl | exact .inr rfl | assumption):PSd X G (.Assign [.Name x pos'] e pos) (dM i f):=PS.wk (zIe hN hi hx he hs hf) fun E σ H q=>by
 obtain ⟨ρ,Hi,R,h⟩:=q
 exact ⟨ρ,Hi,R,mG R h fun d Hi' H' _ e h' v r=>h' _ Hi' H' (Same.refl _) ((R.grow e).set r)⟩
theorem zAr {i:Nat} {pos':Pos} (hN:X.N.Nodup) (hi:X.N[i]?=some x) (hx:Loc X.env.scope x) (he:PEf X G e fs) (hs:swapsWith e (some (.Name x pos')) pos.line X.env=pure false:=by rfl)
  (hf:X.fn x=true∨X.env.scope.names.lookup x=some .local:=by first | exact .inl rfl | exact .inr rfl | assumption):PSd X G (.Assign [.Name x pos'] e pos) (zFZ i fs):=PS.wk (zIe hN hi hx he hs hf) fun E σ H q=>by
 obtain ⟨ρ,Hi,R,h⟩:=q
 refine ⟨ρ,Hi,R,mG R h fun ds Hi' H' _ e h' a n=>?_⟩
 obtain ⟨n1,n2,xs,n3,n4⟩:=n
 exact h' _ Hi' H' (Same.refl _) (R.setOwn e n1 n3 n2 n4)
theorem zBy {i:Nat} {o:Expr} {apos cpos:Pos} (ho:PE X o (zBQ i)) (he:PEd X G e f)
  (hbase:attributeBase o "append" X.env (eval o X.env)=eval o X.env:=by rfl)
  (hfew:((backTo cpos (starEach [e] X.env)).all (fun x=>!x.1) && (backToKw cpos (keywordEach [] X.env)).all (fun x=>x.1.isSome)
   && decide ([e].length+([]:List Keyword).length+(if ([]:List Keyword).isEmpty then 0 else 1) < 30))=true:=by rfl)
  (hline:(apos.endLine==cpos.line)=true:=by rfl) (hs:starEach [e] X.env=(false,eval e X.env)::starEach [] X.env:=by rfl)
  (hsw:swapsWith (.Call (.Attribute o "append" apos) [e] [] cpos) none pos.line X.env=pure false:=by rfl):
  PSd X G (.Expr (.Call (.Attribute o "append" apos) [e] [] cpos) pos) (zEJ i f):=
 PS.wk (zAJ (zMw PySem.F.plainAttrs_list PySem.F.slot_list_append PySem.F.type_list_append rS ho (jN he pX hs) hbase hfew hline hs) hsw) fun E σ H q=>by
 obtain ⟨ρ,Hi,R,h⟩:=q
 unfold zEJ at h
 cases z:ρ[i]? with
 | none=>rw [z] at h;exact h.elim
 | some s=>
  rw [z] at h
  cases s with
  | own ds=>
   obtain ⟨a,xs,p,h1,h2,h3,h4⟩:=R.slot i _ z
   refine ⟨.ref a,p,.inl ⟨rfl,xs,SqL.of h1⟩,?_⟩
   refine ⟨ρ,Hi,R,mG R h fun d Hi' H' _ e h' v r=>?_⟩
   have R':=R.grow e
   obtain ⟨g1,g2⟩:=e.out h1 h2
   by_cases hz:ds.length < 16777216
   ·rw [if_pos hz] at h'
    refine ⟨a,xs,v,rfl,rfl,g1,by rw [h4.length];exact hz,?_⟩
    exact h' σ Hi' _ (Same.refl _) (R'.write z p ((h4.mono e.i).append (.cons r .nil)))
   ·rw [if_neg hz] at h';exact h'.elim
  | un=>exact h.elim
  | val d=>exact h.elim
  | exc c=>exact h.elim
  | tab T=>exact h.elim
theorem zML {i:Nat} {o:Expr} {apos cpos:Pos} (ho:PE X o (zBQ i))
  (hbase:attributeBase o "pop" X.env (eval o X.env)=eval o X.env:=by rfl) (hline:(apos.endLine==cpos.line)=true:=by rfl)
  (hsw:swapsWith (.Call (.Attribute o "pop" apos) [] [] cpos) none pos.line X.env=pure false:=by rfl):
  PSd X G (.Expr (.Call (.Attribute o "pop" apos) [] [] cpos) pos) (zKm i):=
 PS.wk (zAJ (zLX PySem.F.plainAttrs_list PySem.F.slot_list_pop PySem.F.type_list_pop zLm ho hbase hline) hsw) fun E σ H q=>by
 obtain ⟨ρ,Hi,R,h⟩:=q
 unfold zKm at h
 cases z:ρ[i]? with
 | none=>rw [z] at h;exact h.elim
 | some s=>
  rw [z] at h
  cases s with
  | own ds=>
   obtain ⟨a,xs,p,h1,h2,h3,h4⟩:=R.slot i _ z
   refine ⟨.ref a,p,.inl ⟨rfl,xs,SqL.of h1⟩,?_⟩
   have h:Fin X G Hi E (if ds.length=0 then Res.no else Res.ok (Fl.nx (ρ.set i (.own ds.dropLast)))):=h
   by_cases hz:ds.length=0
   ·rw [if_pos hz] at h;exact h.elim
   ·rw [if_neg hz] at h
    have hl:=h4.length
    refine ⟨a,xs,xs[xs.length - 1]'(by omega),rfl,rfl,h1,List.getElem?_eq_getElem (by omega),?_⟩
    exact h σ Hi _ (Same.refl _) (R.write z p h4.dropLast)
  | un=>exact h.elim
  | val d=>exact h.elim
  | exc c=>exact h.elim
  | tab T=>exact h.elim
theorem zMP {i:Nat} {o k:Expr} {fk:Ev} {tpos:Pos} (ho:PE X o (zBQ i)) (hk:PEd X G k fk) (he:PEd X G e f) (hs:swapsWithSole [.Subscript o k tpos] e pos.line X.env=pure false:=by rfl) (hw:swappedStores [.Subscript o k tpos] e X.env=pure none:=by rfl)
  (h1:(assignEach [.Subscript o k tpos] X.env).map (·.2)=[assign (.Subscript o k tpos) X.env]:=by rfl)
  (ha:∀ v,assign (.Subscript o k tpos) X.env v=(do
   let ov <-holding [v] (eval o X.env)
   let iv <-holding [v,ov] (eval k X.env)
   standAt tpos
   holding [v,ov,iv] (setItem ov iv v)
   release [v,ov,iv] []):=by intro _;rfl):PSd X G (.Assign [.Subscript o k tpos] e pos) (zMb i fk f):=
 PS.wk (zKT he (zKi ho hk zGT ha) hs hw h1) fun E σ H q=>by
 obtain ⟨ρ,Hi,R,h⟩:=q
 refine ⟨ρ,Hi,R,mG R h fun d Hi1 H1 _ e1 h1 v r=>?_⟩
 have R1:=R.grow e1
 cases z:ρ[i]? with
 | none=>rw [z] at h1;exact h1.elim
 | some s=>
  rw [z] at h1
  cases s with
  | own ds=>
   obtain ⟨a,xs,p,g1,g2,g3,g4⟩:=R1.slot i _ z
   refine ⟨.ref a,p,?_⟩
   refine ⟨ρ,Hi1,R1,mG R1 h1 fun j Hi2 H2 _ e2 h2 w rw'=>?_⟩
   have R2:=R1.grow e2
   obtain ⟨k1,k2⟩:=e2.out g1 g2
   cases j with
   | int j=>
    have hl:=g4.length
    have h2':Fin X G Hi2 E (if 0<=j/\j < ds.length then Res.ok (.nx (ρ.set i (.own (ds.set j.toNat d)))) else if -(ds.length:Int)<=j/\j < 0 then .ok (.nx (ρ.set i (.own (ds.set (j+ds.length).toNat d)))) else .no):=h2
    by_cases c1:0<=j/\j < ds.length
    ·rw [if_pos c1] at h2'
     refine ⟨a,xs,j,j.toNat,rfl,rw'.intI,k1,by unfold ixN;rw [if_pos c1.1,if_pos (by omega)],?_⟩
     exact h2' σ Hi2 _ (Same.refl _) (R2.write z p ((g4.mono e2.i).set (r.mono e2.i) j.toNat))
    ·rw [if_neg c1] at h2'
     by_cases c2:-(ds.length:Int)<=j/\j < 0
     ·rw [if_pos c2] at h2'
      refine ⟨a,xs,j,(j+ds.length).toNat,rfl,rw'.intI,k1,by unfold ixN;rw [if_neg (by omega),if_pos (by omega),hl],?_⟩
      exact h2' σ Hi2 _ (Same.refl _) (R2.write z p ((g4.mono e2.i).set (r.mono e2.i) (j+ds.length).toNat))
     ·rw [if_neg c2] at h2';exact h2'.elim
   | _=>exact h2.elim
  | un=>exact h1.elim
  | val d=>exact h1.elim
  | exc c=>exact h1.elim
  | tab T=>exact h1.elim
theorem zHb {i:Nat} {op:Operator} {o:Op2} {r:Int->Int->Int} {pos':Pos} (hN:X.N.Nodup) (hi:X.N[i]?=some x) (hx:Loc X.env.scope x) (he:PEd X G e f) (ho:PIp X op (ipI r)) (hr:∀ a b d,o a b=.ok d->∃ i j,a=.int i/\b=.int j/\d=.int (r i j)) (hn:∀ a b c,o a b≠.err c)
  (hf:X.fn x=true∨X.env.scope.names.lookup x=some .local:=by first | exact .inl rfl | exact .inr rfl | assumption):PSd X G (.AugAssign (.Name x pos') op e pos) (zHT i o f):=PS.wk (zKu hN hi hx he ho hf) fun E σ H q=>by
 obtain ⟨ρ,Hi,R,h⟩:=q
 unfold zHT at h
 cases z:ρ[i]? with
 | none=>rw [z] at h;exact h.elim
 | some s=>
  rw [z] at h
  cases s with
  | val d=>
   obtain ⟨v,p,rv⟩:=R.slot i _ z
   refine ⟨v,p,ρ,Hi,R,mG R h fun d' Hi' H' _ e h' w rw'=>?_⟩
   cases q:o d d' with
   | no=>rw [q] at h';exact h'.elim
   | err c=>exact absurd q (hn _ _ _)
   | ok u=>
    rw [q] at h'
    obtain ⟨i',j',rfl,rfl,rfl⟩:=hr _ _ _ q
    exact ⟨i',j',rv.intI,rw'.intI,h' _ Hi' H' (Same.refl _) ((R.grow e).set (.int _))⟩
  | un=>exact h.elim
  | own ds=>exact h.elim
  | exc c=>exact h.elim
  | tab T=>exact h.elim
def tGv (X:Cx) (G:Gx) (g:Gv):TG:=fun v σ H Q=>∃ d ρ Hi,IsD X.K Hi v d/\jI X G Hi H σ ρ/\∃ ρ',g d ρ=.ok ρ'/\∀ σ' Hi' H',Same Hi Hi'->jI X G Hi' H' σ' ρ'->Q σ' H'
@[irreducible] def PGd (X:Cx) (G:Gx) (e:Expr) (g:Gv):Prop:=PG X e (tGv X G g)
unseal PGd
theorem gM {i:Nat} (hN:X.N.Nodup) (hi:X.N[i]?=some x) (hx:Loc X.env.scope x) (hf:X.fn x=true∨X.env.scope.names.lookup x=some .local:=by first | exact .inl rfl | exact .inr rfl | assumption):PGd X G (.Name x pos) (gName i):=
 fun pins s σ H v u Q I r q=>zAX hN hi hx hf pins s σ H v u Q I r (by
  obtain ⟨d,ρ,Hi,rd,R,ρ',e,k⟩:=q
  cases e
  exact k _ Hi H (Same.refl _) (R.set rd))
def zOp (X:Cx) (G:Gx) (g:List D->Rho->Res Rho):TGs:=fun vs σ H Q=>∃ ds ρ Hi,IsDs X.K Hi vs ds/\jI X G Hi H σ ρ/\∃ ρ',g ds ρ=.ok ρ'/\∀ σ' Hi' H',Same Hi Hi'->jI X G Hi' H' σ' ρ'->Q σ' H'
@[irreducible] def jL (X:Cx) (G:Gx) (es:List Expr) (g:List D->Rho->Res Rho):Prop:=PGs X es (zOp X G g)
unseal jL
def rZ (K:PySem.W.Frag) (Hi:Hp) (J:It) (ds:List D):Prop:=∀ (Hi1 H1:Hp),Same Hi Hi1->Same Hi1 H1->∀ i,
 (ds.length<=i->J.stop i H1)/\∀ d,ds[i]?=some d->J.go i H1/\∀ x H2,J.yld i H1 x H2->∃ Hi2,Ext Hi1 H1 Hi2 H2/\IsD K Hi2 x d
def tIv (X:Cx) (G:Gx) (f:Fv):TI:=fun σ H R=>∃ ρ Hi,jI X G Hi H σ ρ/\Out G Hi H (f ρ) fun ds Hi' H'=>∀ J,rZ X.K Hi' J ds->R J H'
@[irreducible] def PId (X:Cx) (G:Gx) (tg e:Expr) (f:Fv):Prop:=PI X tg e (tIv X G f)
unseal PId
theorem PI.wk {tg:Expr} {t t':TI} (h:PI X tg e t) (w:∀ σ H Q,t' σ H Q->t σ H Q):PI X tg e t':=fun pins s σ H Q I q=>h pins s σ H Q I (w σ H Q q)
theorem zHP {g:Gv} {J:It} {ds:List D} {Hi1 H1:Hp} {σ:St} {ρ:Rho} {E:Ends} (hge:∀ d ρ c,g d ρ≠.err c) (R1:jI X G Hi1 H1 σ ρ) (h1:Fin X G Hi1 E (dY g sa ds ρ)) (gv:rZ X.K Hi1 J ds):zNA (fun _ _ R=>R J H1) (tGv X G g) (tS X G sa) E σ H1:=by
 refine ⟨fun i m σ' H'=>m=ds.length - i/\∃ ρ' Hi',Same Hi1 Hi'/\jI X G Hi' H' σ' ρ'/\Fin X G Hi' E (dY g sa (ds.drop i) ρ'),⟨_,rfl,ρ,Hi1,Same.refl _,R1,h1⟩,?_⟩
 rintro i m σ' H' ⟨rfl,ρ',Hi',s',R',h'⟩
 obtain ⟨w1,w2⟩:=gv Hi' H' s' R'.s i
 by_cases hl:i < ds.length
 ·obtain ⟨d,hd⟩:∃ d,ds[i]?=some d:=⟨_,List.getElem?_eq_getElem hl⟩
  obtain ⟨go,yl⟩:=w2 d hd
  have e3:ds.drop i=d::ds.drop (i+1):=by
   rw [List.getElem?_eq_getElem hl] at hd
   cases hd
   exact List.drop_eq_getElem_cons hl
  rw [e3] at h'
  refine .inr ⟨go,fun σ2 H2=>∃ ρ2 Hi2,Same Hi1 Hi2/\jI X G Hi2 H2 σ2 ρ2/\Fin X G Hi2 E (dY g sa (ds.drop (i+1)) ρ2),fun σ2 H2 z=>⟨ds.length - (i+1),by omega,rfl,z⟩,fun x H2 y=>?_⟩
  obtain ⟨Hi2,e2,r2⟩:=yl x H2 y
  have R2:=R'.grow e2
  have h2:Fin X G Hi2 E ((g d ρ').bind fun ρ1=>(sa ρ1).bind fun f=>match f with
   | .nx ρ2=>dY g sa (ds.drop (i+1)) ρ2
   | .ctn ρ2=>dY g sa (ds.drop (i+1)) ρ2
   | .brk ρ2=>.ok (.nx ρ2)
   | .ret r=>.ok (.ret r)):=Fin.mono h' e2.i
  cases z:g d ρ' with
  | no=>rw [z] at h2;exact h2.elim
  | err c=>exact absurd z (hge _ _ _)
  | ok ρ1=>
   rw [z] at h2
   refine ⟨d,ρ',Hi2,r2,R2,ρ1,z,fun σ3 Hi3 H3 s3 R3=>⟨ρ1,Hi3,R3,?_⟩⟩
   have h3:=Fin.mono h2 s3
   have sm:Same Hi1 Hi3:=(s'.trans e2.i).trans s3
   simp only [Res.bind] at h3
   cases zb:sa ρ1 with
   | no=>rw [zb] at h3;exact h3.elim
   | err c=>rw [zb] at h3;exact h3
   | ok fl=>
    rw [zb] at h3
    cases fl with
    | nx ρ2=>exact fun σ4 Hi4 H4 s4 R4=>⟨ρ2,Hi4,sm.trans s4,R4,Fin.mono (show Fin X G Hi3 E (dY g sa (ds.drop (i+1)) ρ2) from h3) s4⟩
    | ctn ρ2=>exact fun σ4 Hi4 H4 s4 R4=>⟨ρ2,Hi4,sm.trans s4,R4,Fin.mono (show Fin X G Hi3 E (dY g sa (ds.drop (i+1)) ρ2) from h3) s4⟩
    | brk ρ2=>exact h3
    | ret r=>cases r<;>exact h3
 ·rw [List.drop_eq_nil_of_le (by omega)] at h'
  exact .inl ⟨w1 (by omega),h' σ' Hi' H' (Same.refl _) R'⟩
theorem nU {tg iter:Expr} {body:List Stmt} {it:Fv} {g:Gv} (hp:PassesOwn (model X.prog X.w) X.A X.env X.xe) (hc:X.calm=true) (hi:PId X G tg iter it) (hg:PGd X G tg g) (hge:∀ d ρ c,g d ρ≠.err c) (hb:eX X G body sa)
  (hs:∀ x,foldedSetIterable iter X.env x=pure x:=by intro _;rfl):PSd X G (.For tg iter body [] pos) (zAC it g sa):=PS.wk (zHZ hp hc hi hg hb hs) fun E σ H q=>by
 obtain ⟨ρ,Hi,R,h⟩:=q
 exact ⟨ρ,Hi,R,mG R h fun ds Hi1 H1 _ e1 h1 J gv=>zHP hge (R.grow e1) h1 gv⟩
theorem zFf {c:Expr} {body:List Stmt} (hp:PassesOwn (model X.prog X.w) X.A X.env X.xe) (hc:PTd X G c t) (hb:eX X G body sa):PSd X G (.While c body [] pos) (eV t sa):=PS.wk (zGu hp hc hb) fun E σ H q=>by
 obtain ⟨ρ,Hi,R,h⟩:=q
 have hn:eV t sa ρ≠.no:=fun z=>by rw [z] at h;exact h
 obtain ⟨n,en⟩:=mQ hn
 rw [en] at h
 refine ⟨fun m σ' H'=>∃ ρ' Hi',Same Hi Hi'/\jI X G Hi' H' σ' ρ'/\Fin X G Hi' E (wh t sa m ρ'),⟨n,ρ,Hi,Same.refl _,R,h⟩,?_⟩
 rintro m σ' H' ⟨ρ',Hi',s',R',h'⟩
 cases m with
 | zero=>exact h'.elim
 | succ m=>
  rw [wh] at h'
  refine ⟨ρ',Hi',R',mG R' h' fun c Hi1 H1 _ e1 h1=>?_⟩
  have R1:=R'.grow e1
  cases c with
  | false=>exact h1 σ' Hi1 H1 (Same.refl _) R1
  | true=>
   refine ⟨fun σ2 H2=>∃ ρ2 Hi2,Same Hi Hi2/\jI X G Hi2 H2 σ2 ρ2/\Fin X G Hi2 E (wh t sa m ρ2),fun σ2 H2 z=>⟨m,by omega,z⟩,ρ',Hi1,R1,?_⟩
   have sm:Same Hi Hi1:=s'.trans e1.i
   simp only [if_true] at h1
   cases zb:sa ρ' with
   | no=>rw [zb] at h1;exact h1.elim
   | err c=>rw [zb] at h1;exact h1
   | ok fl=>
    rw [zb] at h1
    cases fl with
    | nx ρ2=>exact fun σ4 Hi4 H4 s4 R4=>⟨ρ2,Hi4,sm.trans s4,R4,Fin.mono (show Fin X G Hi1 E (wh t sa m ρ2) from h1) s4⟩
    | ctn ρ2=>exact fun σ4 Hi4 H4 s4 R4=>⟨ρ2,Hi4,sm.trans s4,R4,Fin.mono (show Fin X G Hi1 E (wh t sa m ρ2) from h1) s4⟩
    | brk ρ2=>exact h1
    | ret r=>cases r<;>exact h1
theorem zFP {K:PySem.W.Frag} {Hi:Hp} {a:Addr} {xs:List V} {ds:List D} (h:SqT K Hi a xs) (hs:IsDs K Hi xs ds):rZ K Hi (Itt K a) ds:=fun Hi1 H1 s1 s2 i=>by
 have h1:=bY (s1.trans s2) h
 refine ⟨fun hl=>⟨xs,h1,by rw [hs.length];exact hl⟩,fun d hd=>?_⟩
 obtain ⟨v,hv,r⟩:=hs.at hd
 refine ⟨⟨xs,v,h1,hv⟩,fun x H2 y=>?_⟩
 obtain ⟨e,y⟩:=y
 subst e
 have:=y xs h1
 rw [hv] at this
 cases this
 exact ⟨Hi1,Ext.refl s2,r.mono s1⟩
theorem zJl {lo c:Int} {n i:Nat} {d:D} (h:(rng lo n c)[i]?=some d):i < n/\d=.int (lo+(i:Int) * c):=by
 unfold rng at h
 rw [List.getElem?_map] at h
 by_cases hl:i < n
 ·rw [List.getElem?_range hl] at h;cases h;exact ⟨hl,rfl⟩
 ·rw [List.getElem?_eq_none (by rw [List.length_range];omega)] at h;cases h
theorem zIA (lo c:Int) (n:Nat):(rng lo n c).length=n:=by unfold rng;rw [List.length_map,List.length_range]
theorem zAy {K:PySem.W.Frag} {Hi:Hp} (lo:Int) (n:Nat):rZ K Hi (Itr lo n) (rng lo n 1):=fun Hi1 H1 s1 s2 i=>by
 refine ⟨fun hl=>by rw [zIA] at hl;exact hl,fun d hd=>?_⟩
 obtain ⟨h1,rfl⟩:=zJl hd
 refine ⟨h1,fun x H2 y=>?_⟩
 obtain ⟨e,y⟩:=y
 subst e y
 rw [Int.mul_one]
 exact ⟨Hi1,Ext.refl s2,.int _⟩
theorem zBY {tg:Expr} (hg:Gl X "range") (hm:X.mg "range" = none) (ha:PAd X G [a] fs) (hs:starEach [a] X.env=[(false,eval a X.env)]:=by rfl):PId X G tg (.Call (.Name "range" p) [a] [] pos) (zAu fs):=PI.wk (zFs hg hm ha hs) fun σ H Q q=>by
 obtain ⟨ρ,Hi,R,ou⟩:=q
 refine zFW R ou fun vs ds Hi1 H1 e1 R1 r1 o1=>?_
 split at o1
 ·rename_i j
  obtain ⟨v,rfl,h⟩:=r1.one
  by_cases hz:-(2^62)<=j/\j < 2^62
  ·rw [if_pos hz] at o1
   exact ⟨j,by rw [h.intI],hz.1,hz.2,o1.here R1.s _ (zAy 0 j.toNat)⟩
  ·rw [if_neg hz] at o1;exact o1.elim
 ·exact o1.elim
theorem zKR {tg:Expr} (hg:Gl X "range") (hm:X.mg "range" = none) (ha:PAd X G [a,b] fs) (hs:starEach [a,b] X.env=[(false,eval a X.env),(false,eval b X.env)]:=by rfl) (hs2:starEach [b] X.env=[(false,eval b X.env)]:=by rfl):PId X G tg (.Call (.Name "range" p) [a,b] [] pos) (zDJ fs):=PI.wk (zEg hg hm ha hs hs2) fun σ H Q q=>by
 obtain ⟨ρ,Hi,R,ou⟩:=q
 refine zFW R ou fun vs ds Hi1 H1 e1 R1 r1 o1=>?_
 split at o1
 ·rename_i i j
  obtain ⟨v,w,rfl,h,h'⟩:=r1.two
  by_cases hz:-(2^62)<=i/\i < 2^62/\-(2^62)<=j/\j < 2^62
  ·rw [if_pos hz] at o1
   exact ⟨i,j,by rw [h.intI,h'.intI],hz,o1.here R1.s _ (zAy i (j - i).toNat)⟩
  ·rw [if_neg hz] at o1;exact o1.elim
 ·exact o1.elim
end
end L3
namespace L3
open PySem PySem.Spec PyProof.Rows L2
unseal PEd PEf PTd PWd PAd PSd eX POd PGd jL PId
structure Fn (K:PySem.W.Frag) (mg:Str->Option Value) (x:Str) (st:Stmt) (ps:List Str) (f:Addr) (fd:FuncData):Prop where
 fn:Fun K x x st f fd
 bd:zAe K fd ps []
 kp:PySem.W.keepIn K (.ref f)=true
 mg:mg x=some (.ref f)
def XE (X:Cx) (G:Gx):XK:=fun cls _ H=>∃ c,X.mg c=some cls/\G.E c H
def nM (K:PySem.W.Frag) (mg:Str->Option Value) (P:Addr):Prop:=∃ f oc od fd osl c,mg "ranked" = some (.ref f)/\K.lookup f=some ⟨oc,od,.func fd,osl⟩/\fd.code=.ref c/\∀ h,K.In h->PySem.W.CodeHd h c P
def TB (K:PySem.W.Frag) (mg:Str->Option Value) (Hi H:Hp):Prop:=∀ P,nM K mg P->yR P H/\Hi P=none
theorem TB.ext {K:PySem.W.Frag} {mg:Str->Option Value} {Hi H Hi' H':Hp} (t:TB K mg Hi H) (e:Ext Hi H Hi' H'):TB K mg Hi' H':=fun P h=>⟨e.h.t P (t P h).1,by
 cases z:Hi' P with
 | none=>rfl
 | some o=>
  obtain ⟨⟨ps,q,_⟩,n⟩:=t P h
  have:=e.n P n (by rw [z];exact fun w=>by cases w)
  rw [q] at this;cases this⟩
structure Good (X:Cx) (G:Gx) (k:Nat):Prop where
 calm:X.calm=true
 room:Room k X.A
 pass:zCD (CX1 X.prog X.w) X (XE X G)
 own:PassesOwn (model X.prog X.w) X.A X.env X.xe
 tb:TB X.K X.mg G.Bi G.B
def zEI (X:Cx) (G:Gx):Prop:=∀ (pins:List (Addr×Obj)) (σ:St) (H:Hp) (s s':Shared) (ea:Addr) (cls:Value) (vs:List Value),Inv X pins σ H s->Heap.MadeExcOf s.heap s'.heap ea cls vs->s'.os=s.os->AllBare s'.gens->XE X G cls none H->X.xe (.ref ea) s'
def spM (K:PySem.W.Frag) (mg:Str->Option Value) (p:Nat) (m:Mir):Sp:=fun vs H Q E=>vs.length=p/\∃ Bi ds,TB K mg Bi H/\Same Bi H/\IsDs K Bi vs ds/\match m ds with
 | .ok (.v d)=>∀ v Hi' H',Ext Bi H Hi' H'->IsD K Hi' v d->Q v H'
 | .ok (.f es)=>∀ a Hi' H',Ext Bi H Hi' H'->zGj K H Hi' H' a es->Q (.ref a) H'
 | .err c=>∀ C,mg c=some C->∀ Hi' H',Ext Bi H Hi' H'->E C none H'
 | .no=>False
structure CanM (P:Program) (w:World) (K:PySem.W.Frag) (mg:Str->Option Value) (base:Heap) (k:Nat) (x:Str) (ps:List Str) (m:Mir):Prop where
 ex:∃ f fd,FnOk P w K mg base (CX1 P w) k f fd ps (spM K mg ps.length m)/\zAe K fd ps []/\PySem.W.keepIn K (.ref f)=true/\mg x=some (.ref f)
 ln:∀ ds,m ds≠.no->ds.length=ps.length
theorem Good.u {X:Cx} {G:Gx} {k:Nat} (W:Good X G k):X.A.units+64 < cLine:=W.room.units
theorem CanM.mono {P:Program} {w:World} {K:PySem.W.Frag} {mg:Str->Option Value} {base:Heap} {j k:Nat} {x:Str} {ps:List Str} {m:Mir} (c:CanM P w K mg base j x ps m) (h:j<=k):CanM P w K mg base k x ps m:=by
 obtain ⟨⟨f,fd,F,r⟩,l⟩:=c
 exact ⟨⟨f,fd,F.mono h,r⟩,l⟩
section
variable {X:Cx} {G:Gx} {a b e:Expr} {es:List Expr} {pos p:Pos} {f g:Ev} {fs gs:Fv} {t u:Tv} {x:Str} {st:Stmt} {rest:List Stmt} {sa sb:Sv} {k:Nat} {ps:List Str} {m:Mir}
theorem zKS {ps:List Str} (tb:TB X.K X.mg G.Bi G.B) (ln:∀ ds,m ds≠.no->ds.length=ps.length):∀ σ H Q,tD X G (aW m fs) σ H Q->zJB (spM X.K X.mg ps.length m) [] (XE X G) (tAs X G fs) σ H Q:=fun σ H Q q=>by
 obtain ⟨ρ,Hi,R,ou⟩:=q
 refine zFW R ou fun vs ds Hi1 H1 e1 R1 r1 o1=>?_
 rw [List.append_nil]
 have hm:m ds≠.no:=fun z=>by rw [z] at o1;exact o1
 refine ⟨by rw [r1.length];exact ln ds hm,Hi1,ds,tb.ext R1.ext,R1.s,r1,?_⟩
 cases z:m ds with
 | no=>exact absurd z hm
 | err c=>rw [z] at o1;exact fun C hC Hi2 H2 e2=>⟨c,hC,o1 Hi2 H2 e2⟩
 | ok r=>
  rw [z] at o1
  cases r with
  | v d=>exact fun v Hi2 H2 e2 r2=>o1 Hi2 H2 e2 v r2
  | f ds=>
   intro a Hi2 H2 e2 n
   obtain ⟨n1,n2,xs,n3,n4⟩:=n
   exact o1 _ _ (e2.hold n1 n3 n2) (.ref a) (.lst (SqL.of aZ) (n4.mono (cV n2 _)))
theorem aL (W:Good X G k) (c:CanM X.prog X.w X.K X.mg X.base k x ps m) (hg:Gl X x) (ha:PAd X G (e::es) fs)
  (hdb:(x==("__debug__" : Str))=false:=by decide) (he:starEach (e::es) X.env=(false,eval e X.env)::starEach es X.env:=by rfl) (hpl:(backTo pos (starEach es X.env)).any (·.1)=false:=by rfl):
  PEd X G (.Call (.Name x p) (e::es) [] pos) (aW m fs):=by
 obtain ⟨⟨f,fd,F,b,kp,hm⟩,ln⟩:=c
 exact PE.wk (zBC F W.room hg hm kp b .nil W.pass ha hdb he hpl) (zKS W.tb ln)
theorem zIu {ps:List Str} (tb:TB X.K X.mg G.Bi G.B) (ln:∀ ds,m ds≠.no->ds.length=ps.length):∀ σ H Q,tF X G (eZ m fs) σ H Q->zJB (spM X.K X.mg ps.length m) [] (XE X G) (tAs X G fs) σ H Q:=fun σ H Q q=>by
 obtain ⟨ρ,Hi,R,ou⟩:=q
 refine zFW R ou fun vs ds Hi1 H1 e1 R1 r1 o1=>?_
 rw [List.append_nil]
 have hm:m ds≠.no:=fun z=>by rw [z] at o1;exact o1
 refine ⟨by rw [r1.length];exact ln ds hm,Hi1,ds,tb.ext R1.ext,R1.s,r1,?_⟩
 cases z:m ds with
 | no=>exact absurd z hm
 | err c=>rw [z] at o1;exact fun C hC Hi2 H2 e2=>⟨c,hC,o1 Hi2 H2 e2⟩
 | ok r=>
  rw [z] at o1
  cases r with
  | v d=>exact o1.elim
  | f ds=>exact fun a Hi2 H2 e2 n=>o1 Hi2 H2 e2 a ⟨e1.h.none n.1,n.2⟩
theorem cG (W:Good X G k) (c:CanM X.prog X.w X.K X.mg X.base k x ps m) (hg:Gl X x) (ha:PAd X G (e::es) fs)
  (hdb:(x==("__debug__" : Str))=false:=by decide) (he:starEach (e::es) X.env=(false,eval e X.env)::starEach es X.env:=by rfl) (hpl:(backTo pos (starEach es X.env)).any (·.1)=false:=by rfl):
  PEf X G (.Call (.Name x p) (e::es) [] pos) (eZ m fs):=by
 obtain ⟨⟨f,fd,F,b,kp,hm⟩,ln⟩:=c
 exact PE.wk (zBC F W.room hg hm kp b .nil W.pass ha hdb he hpl) (zIu W.tb ln)
theorem bP {d:D} (hg:Gl X x) (h:∃ v u',X.mg x=some u'/\cY v u'/\IsD X.K (fun _=>none) v d) (hdb:(x==("__debug__" : Str))=false:=by decide):PEd X G (.Name x pos) (eC d):=by
 obtain ⟨v,u',hm,r,hd⟩:=h
 exact aP (zBh hg hm r hdb) fun H=>hd.mono fun b o z=>by cases z
end
abbrev BX (P:Program) (w:World) (K:PySem.W.Frag) (mg:Str->Option Value) (base:Heap) (N:List Str) (x:Str) (st:Stmt) (f:Addr) (cdv:Value) (A:Around) (outer:List Env) (s:Shared) (H:Hp) (E:XK):Cx:=
 zDo (CX1 P w) P w K mg base N x (aK st) f cdv A outer s H E
theorem zAj {K:PySem.W.Frag} {mg:Str->Option Value} {Bi H:Hp} {N:List Str} {vs:List V} {ds:List D} (s:Same Bi H) (h:IsDs K Bi vs ds):Rel K mg H Bi Bi H (L2.start N vs) (L3.start N.length ds) where
 len:=by
  unfold L2.start L3.start
  rw [List.length_append,List.length_append,List.length_map,List.length_map,List.length_replicate,List.length_replicate,h.length]
 ext:=Ext.refl s
 slot:=fun i sl e=>by
  unfold L3.start at e
  by_cases hi:i < ds.length
  ·rw [List.getElem?_append_left (by rw [List.length_map];exact hi),List.getElem?_map] at e
   obtain ⟨d,hd⟩:∃ d,ds[i]?=some d:=⟨_,List.getElem?_eq_getElem hi⟩
   rw [hd] at e;cases e
   obtain ⟨v,hv,r⟩:=h.at hd
   refine ⟨v,?_,r⟩
   unfold L2.start
   rw [List.getElem?_append_left (by rw [List.length_map,h.length];exact hi),List.getElem?_map,hv]
   rfl
  ·rw [List.getElem?_append_right (by rw [List.length_map];omega),List.getElem?_replicate] at e
   split at e
   ·cases e;trivial
   ·cases e
 dist:=fun i j a es fs e _ _ _=>by
  exfalso
  unfold L3.start at e
  by_cases hi:i < ds.length
  ·rw [List.getElem?_append_left (by rw [List.length_map];exact hi),List.getElem?_map] at e
   cases z:ds[i]? with
   | none=>rw [z] at e;cases e
   | some d=>rw [z] at e;cases e
  ·rw [List.getElem?_append_right (by rw [List.length_map];omega),List.getElem?_replicate] at e
   split at e<;>cases e
section
variable {P:Program} {w:World} {K:PySem.W.Frag} {mg:Str->Option Value} {base:Heap} {N ps:List Str} {x:Str} {st:Stmt} {f:Addr} {fd:FuncData} {k:Nat} {b:Sv}
theorem zDB {cdv:Value} {A:Around} {outer:List Env} {s:Shared} {H Bi:Hp} {E:XK} (hr:Room k (A.deeper (envOfC x (aK st) s.heap.objs.size f cdv))) (tb:TB K mg Bi H):
  Good (BX P w K mg base N x st f cdv A outer s H E) ⟨H,Bi,fun c H'=>∀ C,mg c=some C->E C none H'⟩ k where
 calm:=rfl
 room:=hr
 pass:=zNc fun c H' q=>by
  obtain ⟨c',h1,h2⟩:=q
  exact h2 c h1
 own:=PassesOwn.leaving
 tb:=tb
theorem zCw {cdv:Value} {A:Around} {outer:List Env} {s:Shared} {H Bi:Hp} {E:XK}:
  zEI (BX P w K mg base N x st f cdv A outer s H E) ⟨H,Bi,fun c H'=>∀ C,mg c=some C->E C none H'⟩:=fun pins σ H1 s1 s' ea cls vs I hx hos hg q=>by
 obtain ⟨c',h1,h2⟩:=q
 exact zBr I hx hos hg (h2 cls h1)
theorem zKd (F:Fn K mg x st ps f fd) (S:FnScope N ps (aK st))
  (h:∀ (cdv:Value) (A:Around) (outer:List Env) (s:Shared) (H:Hp) (E:XK) (G:Gx),Good (BX P w K mg base N x st f cdv A outer s H E) G k->zEI (BX P w K mg base N x st f cdv A outer s H E) G->eX (BX P w K mg base N x st f cdv A outer s H E) G (eU st) b):
  FnOk P w K mg base (CX1 P w) (k+1) f fd ps (spM K mg ps.length (fn ps.length N.length b)):=by
 obtain ⟨oc,od,kV,doc,pm,an,cdv,ct,osl,rfl,lk,hcd⟩:=F.fn.ex
 refine zKX lk hcd S (fun vs H Q E h=>h.1) fun A outer s H vs Q E hr hsp=>?_
 obtain ⟨hl,Bi,ds,tb,sm,hd,hq⟩:=hsp
 have hg:=zDB (P:=P) (w:=w) (K:=K) (mg:=mg) (base:=base) (N:=N) (outer:=outer) (H:=H) (Bi:=Bi) (E:=E) hr tb
 refine ⟨_,h cdv A outer s H E _ hg zCw,L3.start N.length ds,Bi,zAj sm hd,?_⟩
 have hlen:ds.length=ps.length:=by rw [<-hd.length];exact hl
 unfold fn at hq
 rw [if_pos hlen] at hq
 cases z:b (L3.start N.length ds) with
 | no=>rw [z] at hq;exact hq
 | err c=>rw [z] at hq;exact fun Hi' H' e C hC=>hq C hC Hi' H' e
 | ok fl=>
  rw [z] at hq
  cases fl with
  | nx ρ'=>exact fun σ' Hi' H' s R=>hq .non Hi' H' R.ext .non
  | brk ρ'=>exact hq.elim
  | ctn ρ'=>exact hq.elim
  | ret r=>
   cases r with
   | v d=>exact hq
   | f es=>exact hq
theorem aV (F:Fn K mg x st ps f fd) (S:FnScope N ps (aK st))
  (h:∀ (cdv:Value) (A:Around) (outer:List Env) (s:Shared) (H:Hp) (E:XK) (G:Gx),Good (BX P w K mg base N x st f cdv A outer s H E) G k->zEI (BX P w K mg base N x st f cdv A outer s H E) G->eX (BX P w K mg base N x st f cdv A outer s H E) G (eU st) b):
  CanM P w K mg base (k+1) x ps (fn ps.length N.length b):=by
 refine ⟨⟨f,fd,zKd F S h,F.bd,F.kp,F.mg⟩,fun ds hm=>?_⟩
 unfold fn at hm
 split at hm
 ·assumption
 ·exact absurd rfl hm
end
end L3
namespace L3
open PySem PySem.Spec PyProof.Rows L2
unseal PEd PEf PTd PWd PAd PSd eX POd PGd jL PId
section
variable {X:Cx} {G:Gx} {a b e:Expr} {es:List Expr} {pos p:Pos} {f g:Ev} {fs gs:Fv} {t u:Tv} {x:Str} {st:Stmt} {rest:List Stmt} {sa sb:Sv} {k:Nat}
theorem PTd.frz (h:PTd X G e t):PTd X G e (tFrzB t):=PT.wk h fun σ H Q q=>by
 obtain ⟨ρ,Hi,R,ou⟩:=q
 obtain ⟨Hf,s1,R1,fl⟩:=R.frz
 refine ⟨ρ.map Sl.frz,Hf,R1,?_⟩
 unfold tFrzB at ou
 cases z:t (ρ.map Sl.frz) with
 | no=>rw [z] at ou;exact ou
 | err c=>
  rw [z] at ou
  intro Hi1 H1 e1
  obtain ⟨Ht,e2,k,s2,n⟩:=Ext.thaw s1 fl R1.s e1
  exact ou Ht H1 e2
 | ok c=>
  rw [z] at ou
  intro Hi1 H1 e1
  obtain ⟨Ht,e2,k,s2,n⟩:=Ext.thaw s1 fl R1.s e1
  exact ou Ht H1 e2
def iSq (K:PySem.W.Frag) (tl:TE):TI:=fun σ H R=>tl σ H fun x H1=>∃ a,x=.ref a/\(((∃ xs,SqL K H1 a xs)/\R (Itl K a) H1)∨((∃ xs,SqT K H1 a xs)/\R (Itt K a) H1))
theorem zLl {tg l:Expr} {tl:TE} (hl:PE X l tl):PI X tg l (iSq X.K tl):=by
 intro pins s σ H R I h
 refine thn (hl pins s σ H _ I h) fun v s1 ⟨x,H1,I1,r1,q1⟩=>?_
 obtain ⟨a,e,q1⟩:=q1
 subst e
 cases r1
 rcases q1 with ⟨⟨xs,hq⟩,q⟩ | ⟨⟨xs,hq⟩,q⟩
 ·obtain ⟨its,rv,p,hz⟩:=I1.list hq
  refine wpAny_pyIter_list p.isList ?_
  refine ⟨s1.heap.objs.size,[s1.heap.objs.size],_,_,H1,rfl,I1.kept (t':=s1.toks) fun b o e=>Heap.get?_push_of_some _ e,zAx a _,⟨_,Heap.get?_push_size _ rfl,rfl,rfl⟩,fun b hb=>?_,q⟩
  have e:b=s1.heap.objs.size:=by simpa using hb
  subst e
  exact I1.fpOk (Nat.le_refl _) (I1.hok.fresh (Nat.le_refl _))
 ·obtain ⟨its,rv,p,hz⟩:=I1.tuple hq
  refine wpAny_pyIter_tuple (show s1.heap.IsTuple a its.toArray from p) ?_
  refine ⟨s1.heap.objs.size,[s1.heap.objs.size],_,_,H1,rfl,I1.kept (t':=s1.toks) fun b o e=>Heap.get?_push_of_some _ e,zDl a _,⟨_,Heap.get?_push_size _ rfl,rfl,rfl⟩,fun b hb=>?_,q⟩
  have e:b=s1.heap.objs.size:=by simpa using hb
  subst e
  exact I1.fpOk (Nat.le_refl _) (I1.hok.fresh (Nat.le_refl _))
theorem zH {K:PySem.W.Frag} {Hi:Hp} {a:Addr} {xs:List V} {ds:List D} (h1:SqL K Hi a xs) (h2:IsDs K Hi xs ds):rZ K Hi (Itl K a) ds:=fun Hi1 H1 s1 s2 i=>by
 have h3:=cQ (s1.trans s2) h1
 refine ⟨fun hl=>⟨xs,h3,by rw [h2.length];exact hl⟩,fun d hd=>?_⟩
 obtain ⟨v,hv,r⟩:=h2.at hd
 refine ⟨⟨xs,v,h3,hv⟩,fun x H2 y=>?_⟩
 obtain ⟨e,y⟩:=y
 subst e
 have:=y xs h3
 rw [hv] at this
 cases this
 exact ⟨Hi1,Ext.refl s2,r.mono s1⟩
theorem lN {tg:Expr} (h:PEd X G e f):PId X G tg e (wJ f):=PI.wk (zLl h) fun σ H Q q=>by
 obtain ⟨ρ,Hi,R,ou⟩:=q
 refine zCy R ou fun v d Hi1 H1 e1 R1 r1 o1=>?_
 cases d with
 | lst ds=>
  obtain ⟨a,xs,rfl,h1,h2⟩:=r1.lstI
  exact ⟨a,rfl,.inl ⟨⟨xs,cQ R1.s h1⟩,o1.here R1.s _ (zH h1 h2)⟩⟩
 | tup ds=>
  obtain ⟨a,xs,rfl,h1,h2⟩:=r1.tupI
  exact ⟨a,rfl,.inr ⟨⟨xs,bY R1.s h1⟩,o1.here R1.s _ (zFP h1 h2)⟩⟩
 | _=>exact o1.elim
theorem cS {i:Nat}:∀ d ρ c,gName i d ρ≠.err c:=fun d ρ c z=>by cases z
theorem zDT:∀ a b d,zBd a b=.ok d->∃ i j,a=.int i/\b=.int j/\d=.int (i+j):=fun a b d z=>by
 unfold zBd at z;split at z
 ·cases z;exact ⟨_,_,rfl,rfl,rfl⟩
 ·cases z
theorem zCK:∀ a b c,zBd a b≠.err c:=fun a b c z=>by unfold zBd at z;split at z<;>cases z
theorem zEu:∀ a b d,uB a b=.ok d->∃ i j,a=.int i/\b=.int j/\d=.int (i - j):=fun a b d z=>by
 unfold uB at z;split at z
 ·cases z;exact ⟨_,_,rfl,rfl,rfl⟩
 ·cases z
theorem zBT:∀ a b c,uB a b≠.err c:=fun a b c z=>by unfold uB at z;split at z<;>cases z
end
end L3
namespace L3
open PySem PySem.Spec PyProof.Rows L2
unseal PEd PEf PTd PWd PAd PSd eX POd PGd jL PId
theorem zX {K:PySem.W.Frag} {H:Hp}:∀ ns:List Int,IsDs K H (ns.map V.int) (ns.map D.int)
 | []=>.nil
 | n::ns=>.cons (.int n) (zX ns)
end L3
namespace L3
open PySem PySem.Spec PyProof.Rows L2
unseal PEd PEf PTd PWd PAd PSd eX POd PGd jL PId
section
variable {X:Cx} {G:Gx} {e:Expr} {es:List Expr} {pos np cpos:Pos} {fs:Fv} {k:Nat} {c:Str}
theorem gZ (W:Good X G k) (WR:zEI X G) (hR:∃ C,Err X.K X.mg c C) (hg:Gl X c) (ha:PAd X G (e::es) fs)
  (he:starEach (e::es) X.env=(false,eval e X.env)::starEach es X.env:=by rfl) (hplain:(backTo cpos (starEach es X.env)).any (·.1)=false:=by rfl) (hd:(c==("__debug__" : Str))=false:=by decide):
  PSd X G (.Raise (some (.Call (.Name c np) (e::es) [] cpos)) none pos) (iZ c fs):=by
 intro pins s σ H E I q
 obtain ⟨ρ,Hi,R,h⟩:=q
 obtain ⟨C,Er⟩:=hR
 obtain ⟨bmB,newId,B,initId,O,FB⟩:=Er.own X.base I.mod.kin
 obtain ⟨tl,N,nm,q,bs,hdct,sn,sub,ab,col,dd,k0,k1,k2,k3,k5,mN,hC,hN,hni,T⟩:=O.obj
 have hA:=ha cpos pins s σ H (fun vs H1=>vs.length<=sizeLine/\XE X G (.ref C) none H1) I ⟨ρ,Hi,R,mG R h fun ds Hi' H' _ e1 h' vs r=>by
  have h':Fin X G Hi' E (if ds.length<=16777216 then (.err c:Res Fl) else .no):=h'
  by_cases hz:ds.length<=16777216
  ·rw [if_pos hz] at h'
   exact ⟨by rw [r.length];exact hz,c,O.bound,h' Hi' H' (R.ext.trans e1)⟩
  ·rw [if_neg hz] at h';exact h'.elim⟩
 refine wpAny_Raise_call_subT (C:=C) (nm:=nm) (q:=q) (N:=N) (bs:=bs) (bm:=tl) (hdct:=hdct) (sn:=sn) (sub:=sub) (ab:=ab) (col:=col) (dd:=dd) (k0:=k0) (k1:=k1) (k2:=k2) (k3:=k3) (k5:=k5)
  FB (mN:=mN) (T.hasType FB.hasBase) (I.ok.hd W.calm) (by rw [he];show (false || (backTo cpos (starEach es X.env)).any (·.1))=false;rw [hplain];rfl) hni (qW I hg O.bound ⟨rfl,?_⟩ hd)
 rw [he] at hA ⊢
 refine Calls.evalArgs_plain (wpAny_mono hA (fun us s₂ h₂=>?_) fun _ _ y=>y)
 obtain ⟨vs,H2,I2,rv,hz,hx⟩:=h₂
 exact ⟨rfl,by show us.length<=sizeLine;rw [<-rv.length];exact hz,I2.bk _ _ hC,hN.keeps I2.bk,T.keeps I2.bk,fun h' ea hm=>WR pins σ H2 s₂ { s₂ with heap:=h' } ea (.ref C) us I2 hm rfl I2.bare hx⟩
end
end L3
namespace L3
open PySem PySem.Spec PyProof.Rows L2 PySem.W Builtin Builtin.ObjectAttr Builtin.Getset_descriptor
unseal PEd PEf PTd PWd PAd PSd eX POd PGd jL PId
section
variable {prog:Program} {w:World} {A:Around} {E:Value->Shared->Prop} {s:Shared} {K:Frag} {x D:Addr} {ox:Obj}
def zJN (x D:Addr) (h:Heap):Prop:=∃ o,h.get? x=some o/\o.cls=.ref D
theorem zJN.looks {h:Heap} (I:zJN x D h) {M:Model}:Looks M h (typeOf (.ref x)) (.ref D):=by
 obtain ⟨o,h1,h2⟩:=I
 exact h2 ▸ (Looks.ld h1).andThen .now
theorem zCU {h:Heap} {M:Model} {self:Value} {name:Str} {a g:Value} (X:K.In h) (ha:findIn K (.ref D) name=some (some a)) (hg:specialIn K a "__get__" = some (some g)) (ht:takesIn K a=some true):
  Looks M h (Builtin.ObjectAttr.find self (.ref D) name) (.bind g a):=by
 have L1:=looks_findIn (M:=M) X ha
 have L2:=looks_specialIn (M:=M) X hg
 have L3:=looks_takesIn (M:=M) X ht
 refine L1.andThen (L2.andThen ?_)
 intro A' Q' E' s' k q
 unfold Builtin.ObjectAttr.dataDescriptor?
 refine wpAny_bind (wpAny_bind (L3 A' _ E' s' k ?_))
 exact wpAny_pure (wpAny_bind (wpAny_rule (wpAny_pure q)))
theorem zDi {R:Result->Shared->Prop} {tp:Value} (X:K.In s.heap) (I:zJN x D s.heap) (hm:mroIn K D (.type "object")=some true) (h:R (.ok (.ret (.ref D))) s):
  codeAny (model prog w) A (.call (.builtin "getset_descriptor.__get__") ⟨[.builtin "object.__class__", .ref x,tp],[]⟩) R s:=by
 obtain ⟨hh,gg,dr,tt,oo⟩:=s
 have L0:=I.looks (M:=model prog w)
 have L1:=looks_mroIn (M:=model prog w) X hm
 refine codeAny_call_builtin KF.slot_gs.plain KF.entry_gs (KF.slot_gs.check _ _ _ _ _ _ _ _ KF.type_class (KF.args_gs _ _ _) ?_)
 unfold Builtin.«getset_descriptor.__get__» descrGet
 rw [dga_obj]
 refine wpAny_bind (wpAny_pure ?_)
 unfold descrGetter descrCheckInstance descrNameAndClass isInstance
 simp only [KF.owner_class]
 repeat lk
 refine ⟨Code.quiet_builtin _ (by decide +kernel),codeAny_builtin KF.entry_class ?_⟩
 unfold Builtin.«object.__class__» shownTypeOf
 repeat lk
 exact h
structure ExK (K:Frag) (D:Addr):Prop where
 hc:(clsIn K D).isSome=true
 ga:findIn K (.ref D) "__getattribute__" = some (some (.builtin "BaseException.__getattribute__"))
 no:findIn K (.ref D) "__getattr__" = some none
 ha:findIn K (.ref D) "__class__" = some (some (.builtin "object.__class__"))
 hn:specialIn K (.builtin "object.__class__") "__get__" = some (some (.builtin "getset_descriptor.__get__"))
 tk:takesIn K (.builtin "object.__class__")=some true
 mo:mroIn K D (.type "object")=some true
 mb:mroIn K D (.type "BaseException")=some true
theorem zDM (T:ExK K D) {Q:Option Value->Shared->Prop} (X:K.In s.heap) (I:zJN x D s.heap) (h:Q (some (.ref D)) { s with toks:=s.toks+1 }):
  wpAny (model prog w) A (getAttr? (.ref x) "__class__") Q E s:=by
 obtain ⟨hh,g,d,t,os⟩:=s
 have L0:=I.looks (M:=model prog w)
 have L1:=looks_findIn (M:=model prog w) X T.ga
 have L2:=looks_findIn (M:=model prog w) X T.no
 have L3:=zCU (M:=model prog w) (self:=.ref x) X T.ha T.hn T.tk
 have L4:=looks_mroIn (M:=model prog w) X T.mb
 unfold getAttr? getAttrBy? getAttrBy
 refine wpAny_bind (wpAny_mkText (wpAny_bind (wpAny_attempt (wpAny_holding (wpAny_bind (L0.at (wpAny_bind (L1.at ?_))))))))
 have hx2:(Value.builtin "BaseException.__getattribute__" == Value.builtin "object.__getattribute__")=false:=by decide +kernel
 show wpAny _ _ (if (onTheHeap (.ref D) && Value.builtin "BaseException.__getattribute__" == Value.builtin "object.__getattribute__")=true then _ else _) _ _ _
 rw [hx2,Bool.and_false,if_neg Bool.false_ne_true]
 unfold getAttrByItsOwn hookBefore
 refine wpAny_bind ?_
 show wpAny _ _ (typeLookup (.ref D) "__getattr__") _ _ _
 refine L2.at ?_
 refine wpAny_bind (wpAny_attempt (wpAny_holding ?_))
 unfold callGetattribute boundAndCalled
 have f3:=F.excAttr_ValueError.ga.bind (.ref x)
 show wpAny _ _ (bindSpecial (.builtin "BaseException.__getattribute__") (.ref x) >>= _) _ _ _
 rw [f3]
 refine wpAny_bind (wpAny_pure ?_)
 have hk:builtinKind "BaseException.__getattribute__" = some .slot:=by decide +kernel
 have hsplit:splitId "BaseException.__getattribute__" = some ("BaseException", "__getattribute__"):=by decide +kernel
 refine wpAny_call (codeAny_call_builtin F.excAttr_ValueError.ga.plain F.entry_bexc_ga ?_)
 have ha:=F.args_bexc_ga (.ref x) (.str "__class__" t)
 simp only [checkBuiltinCall,hk,hsplit]
 refine wpAny_bind ?_
 unfold isInstance
 refine wpAny_bind ?_
 refine L0.at ?_
 refine L4.at ?_
 rw [if_neg (by decide)]
 repeat (first | assumption | wp_step)
 obtain ⟨ox,hx,hcl⟩:=I
 refine wpAny_loadPart_at hx ?_
 rw [hcl]
 refine wpAny_pure ?_
 refine wpAny_bind ?_
 refine L3.at ?_
 show wpAny _ _ (Builtin.ObjectAttr.bindTo (.builtin "getset_descriptor.__get__") (.builtin "object.__class__") (.ref x) (.ref D)) _ _ _
 unfold Builtin.ObjectAttr.bindTo
 show wpAny _ _ (do
   let v <-holding [Value.builtin "object.__class__"] (call (.builtin "getset_descriptor.__get__") [.builtin "object.__class__", .ref x,.ref D])
   ret v) _ _ _
 refine wpAny_bind (wpAny_holding (wpAny_call (zDi X ⟨ox,hx,hcl⟩ T.mo ?_)))
 refine wpAny_pure ?_
 exact handed_on rfl (wpAny_pure h)
theorem zHd (T:ExK K D):KitX K (.ref x) (.ref D) (zJN x D) where
 ty:=fun _ _ _ I=>I.looks
 it:=fun _ _ X _=>by
  obtain ⟨cd,hcD⟩:=Option.isSome_iff_exists.mp T.hc
  unfold clsIn at hcD
  split at hcD
  ·rename_i c' d' cd' sl' ho
   intro A' Q' E' s' k q
   unfold isType loadHead
   exact wpAny_bind (wpAny_loadPart (k _ _ (X _ _ ho)) (wpAny_pure q))
  ·cases hcD
 ne:=fun h tp dd its n sl X htp=>by
  obtain ⟨cd,hcD⟩:=Option.isSome_iff_exists.mp T.hc
  refine Bool.eq_false_iff.mpr fun q=>?_
  have e:D=tp:=Value.ref.inj (beq_iff_eq.mp q)
  subst e
  unfold clsIn at hcD
  split at hcD
  ·rename_i c' d' cd' sl' ho
   have z:=(X _ _ ho).symm.trans htp
   cases z
  ·cases hcD
 ca:=fun X I k=>zDM T X I k
end
end L3
namespace L3
open PySem PySem.Spec PyProof.Rows L2 PySem.W
unseal PEd PEf PTd PWd PAd PSd eX POd PGd jL PId
section
variable {prog:Program} {w:World} {A:Around} {E:Value->Shared->Prop} {s:Shared} {K:Frag} {x C CE:Addr} {ox:Obj}
structure CaK (K:Frag) (CE:Addr):Prop where
 ty:typeIn K (.ref CE)=some (.type "type")
 cl:(clsIn K CE).isSome=true
 mb:mroIn K CE (.type "BaseException")=some true
theorem zEY (T:CaK K CE) (hm:mroIn K C (.ref CE)=some true) {Q:Bool->Shared->Prop} (X:K.In s.heap) (I:zJN x C s.heap) (h:Q true s):wpAny (model prog w) A (excMatches (.ref x) (.ref CE)) Q E s:=by
 obtain ⟨hh,g,d,t,os⟩:=s
 have L0:=I.looks (M:=model prog w)
 have L1:=looks_typeIn (M:=model prog w) X T.ty
 have L2:=looks_mroIn (M:=model prog w) X T.mb
 have L3:=looks_mroIn (M:=model prog w) X hm
 have Lt:Looks (model prog w) hh (isType (.ref CE)) true:=by
  obtain ⟨cd,hcD⟩:=Option.isSome_iff_exists.mp T.cl
  unfold clsIn at hcD
  split at hcD
  ·rename_i c' d' cd' sl' ho
   intro A' Q' E' s' k q
   unfold isType loadHead
   exact wpAny_bind (wpAny_loadPart (k _ _ (X _ _ ho)) (wpAny_pure q))
  ·cases hcD
 unfold excMatches isInstance isExcClass
 refine wpAny_bind (wpAny_bind ?_)
 refine L1.at ?_
 refine wpAny_of_eq tc_notTuple ?_
 show wpAny _ _ (forIn [Value.ref CE] PUnit.unit _ >>= _) _ _ _
 rw [List.forIn_cons]
 refine wpAny_bind (wpAny_bind (wpAny_bind (wpAny_bind ?_)))
 refine Lt.at ?_
 show wpAny _ _ (isSubtype (.ref CE) (.type "BaseException")) _ _ _
 refine L2.at ?_
 refine wpAny_pure ?_
 show wpAny _ _ (forIn ([]:List Value) PUnit.unit _) _ _ _
 rw [List.forIn_nil]
 refine wpAny_pure ?_
 refine wpAny_bind ?_
 refine L0.at ?_
 refine wpAny_bind ?_
 rw [List.forIn_cons]
 refine wpAny_bind (wpAny_bind ?_)
 refine L3.at ?_
 repeat (first | exact h | wp_step)
end
end L3
namespace L3
open PySem PySem.Spec PyProof.Rows L2 PySem.W
unseal PEd PEf PTd PWd PAd PSd eX POd PGd jL PId
section
variable {X:Cx} {pins:List (Addr×Obj)} {σ:St} {H H':Hp} {s s':Shared} {ea:Addr} {cls:Value}
theorem Fly.stay (I:Inv X pins σ H s) (F:Fly X.prog X.w X.stack H H' s ea cls s') {h' B:Heap} {a0:Value}
  (hf:Heap.FlyingW B X.stack ea cls a0 s'.heap) (cov:∀ b o,s'.heap.get? b=some o->((∃ o',s.heap.get? b=some o')∨H' b≠none)->b∉frs X.stack->B.get? b=some o)
  (hf':Heap.FlyingW B X.stack ea cls a0 h') (up:s'.heap.UpToSlots h') {t':Nat}:Inv X pins σ H' { s' with heap:=h',toks:=t' }:=by
 have trk:∀ {b:Addr},H' b≠none->b∉frs X.stack:=fun {b} hb hm=>by
  have h1:=I.stkFree b hm
  obtain ⟨_,o,ho,_⟩:=I.stack.mem hm
  exact hb (F.un.free b o ho h1 (by simp))
 have keepB:∀ {b:Addr} {o:Obj},s'.heap.get? b=some o->((∃ o',s.heap.get? b=some o')∨H' b≠none)->b∉frs X.stack->h'.get? b=some o:=fun e1 e2 e3=>hf'.1 _ _ (cov _ _ e1 e2 e3)
 have slotOf:∀ {b:Addr} {o:Obj},b∈frs X.stack->s'.heap.get? b=some o->∃ sl,h'.get? b=some { o with slots:=sl }:=fun {b o} hm e=>by
  obtain ⟨_,o',ho',hn⟩:=hf.2.2.1.mem hm
  rw [e] at ho';cases ho'
  exact up b o e hn
 refine I.call' (s':={ s' with heap:=h',toks:=t' }) (ch:=[]) F.os ⟨?_,?_,F.un.free,?_,F.un.tups,F.un.frzs,F.un.tbls⟩ ?_ F.bare (fun b z=>absurd z (by simp))
 ·intro b o e n hb hx
  exact keepB (F.un.keep b o e n hb hx) (.inl ⟨o,e⟩) hb
 ·intro b o e n hb hx
  obtain ⟨sl,e1⟩:=F.un.slot b o e n hb hx
  obtain ⟨sl2,e2⟩:=slotOf hb e1
  exact ⟨sl2,e2⟩
 ·intro b o e hx
  obtain ⟨o1,e1⟩:=F.un.there b o e hx
  by_cases hs:b∈frs X.stack
  ·obtain ⟨sl,e3⟩:=slotOf hs e1
   exact ⟨_,e3⟩
  ·exact ⟨o1,keepB e1 (.inl ⟨o,e⟩) hs⟩
 ·intro a o e
  refine (F.hok a o e).stay (fun b u hb z=>?_) (fun b z=>z) (fun b xs z=>z)
  have hb':H' b≠none:=by
   rcases hb with rfl | hb
   ·rw [e];simp
   ·rw [hb];simp
  exact keepB z (.inr hb') (trk hb')
theorem _root_.L2.Inv.track (I:Inv X pins σ H s) {a:Addr} {o:HO} (hn:H a=none) (h0:X.s₀.heap.get? a=none) (hl:a≠X.env.locals) (hc:∀ x c,X.env.cells.lookup x=some c->c≠a) (hp:∀ p∈X.pn++pins,p.1≠a)
  (ho:jZ X.prog X.w (upd H a o) s.heap a o):Inv X pins σ (upd H a o) s where
 ok:=I.ok
 os:=I.os
 bare:=I.bare
 base:=⟨I.base.keep,I.base.slot,fun b ob e n hx=>by
   have:b≠a:=fun z=>by rw [z,h0] at e;cases e
   rw [bC this];exact I.base.free b ob e n hx,I.base.there,fun b xs e=>by
   have z:=I.base.tups b xs e
   rw [bC (bB z hn)];exact z,fun b ob u e=>by
   have z:=I.base.frzs b ob u e
   rw [bC (bB z hn)];exact z,fun b ps e=>by
   obtain ⟨m,z⟩:=I.base.tbls b ps e
   exact ⟨m,by rw [bC (bB z hn)];exact z⟩⟩
 loc:=I.loc
 cell:=I.cell
 free:=by rw [bC (Ne.symm hl)];exact I.free
 freeC:=fun x c e=>by rw [bC (hc x c e)];exact I.freeC x c e
 pin:=fun p hp'=>by
  obtain ⟨e1,e2,e3,e4,e5⟩:=I.pin p hp'
  exact ⟨e1,by rw [bC (hp p hp')];exact e2,e3,e4,e5⟩
 hok:=fun b u e=>by
  by_cases hb:b=a
  ·subst hb;rw [aZ] at e;cases e;exact ho
  ·rw [bC hb] at e
   exact (I.hok b u e).stay (fun c v _ q=>q) (fun c q=>by rw [bC (bB q hn)];exact q) fun c xs q=>by rw [bC (bB q hn)];exact q
 len:=I.len
theorem zJK {M:Model} {A:Around} {E:Value->Shared->Prop} {i:Nat} {n:Str} {pos:Pos} {Q:Unit->Shared->Prop} (I:Inv X pins σ H s) (hN:X.N.Nodup) (hi:X.N[i]?=some n) (hk:X.env.scope.names.lookup n=some .local)
  (h:∀ s',Inv X pins (σ.set i none) H s'->Q () s'):wpAny M A (do bindName X.env n .none;unbindBehindTheSuite X.env n pos) Q E s:=by
 obtain ⟨m,hn,hl⟩:=id I.loc
 have hcls:(X.env.scope.kind==.class || (X.env.scope.kind==.module && X.env.locals != X.env.globals))=false:=by rw [I.ok.kind];rfl
 have hiσ:i < σ.length:=by rw [I.len];exact (List.getElem?_eq_some_iff.mp hi).1
 have cne:=I.cne
 refine wpAny_nameGoes_keeps hk hn hcls fun h' v hn' hs=>?_
 obtain ⟨oL,_,_,hoL,_⟩:=id hn
 refine h _ ⟨I.ok,I.os,I.bare,⟨fun b o e n hb hx=>?_,fun b o e n hb hx=>?_,I.base.free,fun b o e hx=>?_,I.base.tups,I.base.frzs,I.base.tbls⟩,⟨_,hn',fun j y v' e1 e2 e3=>?_⟩,fun y c e=>?_,I.free,I.freeC,fun p hp=>?_,?_,by simpa using I.len⟩
 ·exact (hs.2 b (Nat.ne_of_lt (Nat.lt_of_lt_of_le (Heap.lt_size e) I.ok.above))).trans (I.base.keep b o e n hb hx)
 ·obtain ⟨sl,e1⟩:=I.base.slot b o e n hb hx
  exact ⟨sl,(hs.2 b (Nat.ne_of_lt (Nat.lt_of_lt_of_le (Heap.lt_size e) I.ok.above))).trans e1⟩
 ·obtain ⟨o',e1⟩:=I.base.there b o e hx
  exact ⟨o',(hs.2 b (Nat.ne_of_lt (Nat.lt_of_lt_of_le (Heap.lt_size e) I.ok.above))).trans e1⟩
 ·by_cases hj:j=i
  ·subst hj
   rw [List.getElem?_set_self hiσ] at e2
   cases e2
  ·rw [List.getElem?_set_ne (Ne.symm hj)] at e2
   obtain ⟨u',r',q⟩:=hl j y v' e1 e2 e3
   refine ⟨u',r',?_⟩
   rcases q with ⟨k,e⟩ | ⟨k,c,e,z⟩
   ·refine .inl ⟨k,?_⟩
    have:y≠n:=fun e=>hj (xS hN e1 (e ▸ hi))
    simp [this,e]
   ·exact .inr ⟨k,c,e,z.sameBut hs (cne y c e)⟩
 ·obtain ⟨w',z⟩:=I.cell y c e
  exact ⟨w',z.sameBut hs (cne y c e)⟩
 ·obtain ⟨e,n,ne,nf,d⟩:=I.pin p hp
  exact ⟨(hs.2 p.1 ne).trans e,n,ne,nf,d⟩
 ·intro b ob e
  refine (I.hok b ob e).stay (fun c w' hc q=>(hs.2 c ?_).trans q) (fun _ q=>q) fun _ _ q=>q
  rintro rfl
  have hfree:=I.free
  rcases hc with rfl | hc
  ·rw [hfree] at e;cases e
  ·rw [hfree] at hc;cases hc
abbrev lF (X:Cx) (ea:Addr):Cx:={ X with A:=X.A.mark (some (.ref ea)),calm:=false,xe:=fun _ _=>False }
theorem _root_.L2.Inv.clause (I:Inv X pins σ H s) (ea:Addr):Inv (lF X ea) pins σ H s:=
 ⟨⟨I.ok.mod,I.ok.kind,I.ok.glob,I.ok.blt,I.ok.above,I.ok.inj,I.ok.has,I.ok.cab,(fun z=>Bool.noConfusion z),I.ok.frames,I.ok.stk,I.ok.exf,I.ok.bs,I.ok.bsz,I.ok.noex,I.ok.exfs,I.ok.funs,I.ok.frf⟩,I.os,I.bare,I.base,I.loc,I.cell,I.free,I.freeC,I.pin,I.hok,I.len⟩
theorem _root_.L2.Inv.unclause {ea:Addr} (ok:X.Ok) (I:Inv (lF X ea) pins σ H s):Inv X pins σ H s:=⟨ok,I.os,I.bare,I.base,I.loc,I.cell,I.free,I.freeC,I.pin,I.hok,I.len⟩
end
end L3
namespace L3
open PySem PySem.Spec PyProof.Rows L2 PySem.W
unseal PEd PEf PTd PWd PAd PSd eX POd PGd jL PId
section
variable {X:Cx} {G:Gx} {a e:Expr} {es:List Expr} {pos p:Pos} {fs:Fv} {t:Tv} {x:Str} {k:Nat} {ps:List Str} {m:Mir} {st:Stmt} {sts:List Stmt} {sa sb:Sv}
def G0 (G:Gx):Gx:={ G with E:=fun _ _=>False }
def zNd (X:Cx) (pins:List (Addr×Obj)) (σ:St) (Hi H:Hp) (c:Str) (ev:Value) (s':Shared):Prop:=
 ∃ (s1:Shared) (H1:Hp) (ea:Addr) (cls:Value) (Hi' H':Hp),ev=.ref ea/\Inv X pins σ H1 s1/\X.mg c=some cls/\Fly X.prog X.w X.stack H1 H' s1 ea cls s'/\Ext Hi H Hi' H'/\Keep H H1
def zNE (X:Cx) (G:Gx) (Hi:Hp) (E:Ends) (r:Res Fl):Prop:=match r with
 | .err _=>True
 | r=>Fin X G Hi E r
@[irreducible] def PSx (X:Cx) (G:Gx) (st:Stmt) (f:Sv):Prop:=∀ (pins:List (Addr×Obj)) (s:Shared) (σ:St) (H:Hp) (E:Ends) (ρ:Rho) (Hi:Hp) (Et:Value->Shared->Prop),
 Inv X pins σ H s->jI X G Hi H σ ρ->f ρ≠.no->zNE X G Hi E (f ρ)->(∀ c ev s',f ρ=.err c->zNd X pins σ Hi H c ev s'->Et ev s')->wpAny (model X.prog X.w) X.A (exec st X.env) (SP X pins E) Et s
unseal PSx
@[irreducible] def lI (X:Cx) (G:Gx) (sts:List Stmt) (f:Sv):Prop:=∀ (pins:List (Addr×Obj)) (s:Shared) (σ:St) (H:Hp) (E:Ends) (ρ:Rho) (Hi:Hp) (Et:Value->Shared->Prop),
 Inv X pins σ H s->jI X G Hi H σ ρ->f ρ≠.no->zNE X G Hi E (f ρ)->(∀ c ev s',f ρ=.err c->zNd X pins σ Hi H c ev s'->Et ev s')->wpAny (model X.prog X.w) X.A (execs sts X.env) (SP X pins E) Et s
unseal lI
theorem zMr (h:PSx X G st sa):lI X G [st] sa:=fun pins s σ H E ρ Hi Et I R hn hf he=>by
 refine wpAny_execs_cons (wpAny_mono (h pins s σ H E ρ Hi Et I R hn hf he) (fun f s1 q=>?_) fun _ _ z=>z)
 cases f with
 | next=>exact wpAny_execs_nil q
 | ret v=>exact q
 | brk=>exact q
 | cont=>exact q
theorem zNj {pins:List (Addr×Obj)} {s:Shared} {σ:St} {H:Hp} {ρ:Rho} {Hi:Hp} {Et:Value->Shared->Prop} {Q:VK} {ds:List D} (tb:TB X.K X.mg G.Bi G.B) (c:CanM X.prog X.w X.K X.mg X.base k x ps m) (hr:Room k X.A) (hg:Gl X x) (ha:PAd X.nox (G0 G) (e::es) fs)
  (I:Inv X pins σ H s) (R:jI X G Hi H σ ρ) (hds:fs ρ=.ok ds) (hm:m ds≠.no) (hq:∀ r v Hi' H',m ds=.ok r->Ext Hi H Hi' H'->IsD X.K Hi' v r.d->Q v H') (he:∀ c ev s',m ds=.err c->zNd X pins σ Hi H c ev s'->Et ev s')
  (hdb:(x==("__debug__" : Str))=false) (hst:starEach (e::es) X.env=(false,eval e X.env)::starEach es X.env) (hpl:(backTo pos (starEach es X.env)).any (·.1)=false):
  wpAny (model X.prog X.w) X.A (eval (.Call (.Name x p) (e::es) [] pos) X.env) (EP X pins σ Q) Et s:=by
 obtain ⟨⟨f,fd,F,b,kp,hmg⟩,ln⟩:=c
 refine wpAny_Call_Name_kw (qW I hg hmg ?_ hdb)
 have hA:=ha pos pins s σ H (fun vs H1=>∃ Hi1,Ext Hi H Hi1 H1/\IsDs X.K Hi1 vs ds) (I.wish _) ⟨ρ,Hi,R,by rw [hds];exact fun Hi1 H1 e1 vs r=>⟨Hi1,e1,r⟩⟩
 refine PySem.W.callWith_K (h₀:=X.base) I.ok.mod.kin kp (wpAny_mono hA (fun us s1 q=>?_) fun _ _ z=>False.elim z) hst hpl
 obtain ⟨vs,H1,I1',r,Hi1,e1,hd⟩:=q
 have I1:Inv X pins σ H1 s1:=I1'.unwish
 refine ⟨I1.kIn,?_⟩
 have hl:us.length=ps.length:=by rw [<-r.length,hd.length];exact ln ds hm
 refine wpAny_call (codeAny_mono (F.run X.A X.stack s1 H1 ⟨us,[]⟩ us vs (fun v H2=>Q v H2) (fun cls _ H2=>∃ c Hi2,X.mg c=some cls/\m ds=.err c/\Ext Hi1 H1 Hi2 H2) hr I1.env0 (by have:=b s1 us I1.kIn (by rw [List.append_nil];exact hl);rwa [List.append_nil] at this) r ?_) fun res s' hq'=>?_)
 ·refine ⟨by rw [hd.length];exact ln ds hm,Hi1,ds,tb.ext (R.ext.trans e1),e1.s,hd,?_⟩
  cases z:m ds with
  | no=>exact absurd z hm
  | err c'=>exact fun C hC Hi2 H2 e2=>⟨c',Hi2,hC,rfl,e2⟩
  | ok rr=>
   cases rr with
   | v d=>exact fun v Hi2 H2 e2 r2=>hq _ v Hi2 H2 z (e1.trans e2) r2
   | f es=>
    intro a' Hi2 H2 e2 n
    obtain ⟨n1,n2,xs,n3,n4⟩:=n
    exact hq _ (.ref a') (upd Hi2 a' (.lst xs)) H2 z (e1.trans (e2.hold n1 n3 n2)) (.lst (SqL.of aZ) (n4.mono (cV n2 _)))
 ·cases res with
  | error ev=>
   obtain ⟨ea,cls,H',rfl,Fl,c',Hi2,hc,hmc,e2⟩:=hq'
   exact he c' _ s' hmc ⟨s1,H1,ea,cls,Hi2,H',rfl,I1,hc,Fl,e1.trans e2,e1.h⟩
  | ok fl=>
   cases fl with
   | ret u=>exact I1.after hq'
   | next=>exact False.elim hq'
   | brk=>exact False.elim hq'
   | cont=>exact False.elim hq'
theorem zGD {α:Type} {r:Res α} {β:Type} {f:α->Res β} (h:(noErr r).bind f≠.no):∃ a,r=.ok a/\(noErr r).bind f=f a:=by
 cases r with
 | ok a=>exact ⟨a,rfl,rfl⟩
 | err c=>exact absurd rfl h
 | no=>exact absurd rfl h
theorem zKD (W:Good X G k) (c:CanM X.prog X.w X.K X.mg X.base k x ps m) (hg:Gl X x) (ha:PAd X.nox (G0 G) (e::es) fs)
  (hdb:(x==("__debug__" : Str))=false:=by decide) (hst:starEach (e::es) X.env=(false,eval e X.env)::starEach es X.env:=by rfl) (hpl:(backTo pos (starEach es X.env)).any (·.1)=false:=by rfl)
  {pos2:Pos} (hs2:swapsWith (.Call (.Name x p) (e::es) [] pos) none pos2.line X.env=pure false:=by rfl):
  PSx X G (.Expr (.Call (.Name x p) (e::es) [] pos) pos2) (zGC m fs):=fun pins s σ H E ρ Hi Et I R hn hf he=>by
 unfold zGC at hn hf he
 obtain ⟨ds,hds,heq⟩:=zGD hn
 rw [heq] at hn hf he
 have hm:m ds≠.no:=fun z=>by rw [z] at hn;exact hn rfl
 refine wpAny_Expr_any (wpAny_mono (zNj (Q:=fun v H'=>E.nx σ H') W.tb c W.room hg ha I R hds hm (fun r v Hi' H' z e1 rv=>?_) (fun c' ev s' z q=>he c' ev s' (by rw [z];rfl) q) hdb hst hpl) (fun v s1 q=>?_) fun _ _ z=>z) I.quiet hs2
 ·rw [z] at hf
  exact (show Fin X G Hi E (.ok (.nx ρ)) from hf) σ Hi' H' e1.i (R.grow e1)
 ·obtain ⟨v',H1,I1,r1,q1⟩:=q
  exact ⟨σ,H1,I1,q1⟩
end
end L3
namespace L3
open PySem PySem.Spec PyProof.Rows L2 PySem.W
unseal PEd PEf PTd PWd PAd PSd eX POd PGd jL PId PSx lI
section
variable {X:Cx} {G:Gx} {k:Nat} {fb fh:Sv} {body suite:List Stmt} {b₀:Stmt} {ce n:Str} {np hpos pos:Pos} {i:Nat} {tb:List Str}
def Cat (K:Frag) (mg:Str->Option Value) (ce c:Str):Prop:=∃ C CE,mg c=some (.ref C)/\mg ce=some (.ref CE)/\ExK K C/\CaK K CE/\mroIn K C (.ref CE)=some true
structure GoodH (X:Cx):Prop where
 u:X.A.units+64 < cLine
theorem Rel.setExc {K:PySem.W.Frag} {mg:Str->Option Value} {B Bi Hi H:Hp} {σ:St} {ρ:Rho} {a C:Addr} {c:Str} (R:Rel K mg B Bi Hi H σ ρ) (hn:H a=none) (hB:B a=none) (hc:mg c=some (.ref C)):
  Rel K mg B Bi Hi (upd H a (.ext (zGZ a C))) (σ.set i (some (.ref a))) (ρ.set i (.exc c)) where
 len:=by rw [List.length_set,List.length_set];exact R.len
 ext:=R.ext.trans (Ext.newF R.s hn)
 slot:=fun j s q=>by
  by_cases z:i=j
  ·subst z
   by_cases hl:i < ρ.length
   ·rw [List.getElem?_set_self hl] at q;cases q
    exact ⟨a,C,by rw [List.getElem?_set_self (by rw [R.len];exact hl)],aZ,R.s.none hn,hB,hc⟩
   ·rw [List.getElem?_eq_none (by rw [List.length_set];omega)] at q;cases q
  ·rw [List.getElem?_set_ne z] at q ⊢
   exact (R.slot j s q).ext (Ext.newF R.s hn)
 dist:=fun j l b es fs q1 q2 q3 q4=>by
  have nx:∀ {j:Nat} {es:List D},(ρ.set i (.exc c))[j]?=some (.own es)->i≠j:=fun {j es} q e=>by
   subst e
   by_cases hl:i < ρ.length
   ·rw [List.getElem?_set_self hl] at q;cases q
   ·rw [List.getElem?_eq_none (by rw [List.length_set];omega)] at q;cases q
  have n1:=nx q1
  have n2:=nx q2
  rw [List.getElem?_set_ne n1] at q1 q3
  rw [List.getElem?_set_ne n2] at q2 q4
  exact R.dist j l b es fs q1 q2 q3 q4
theorem Rel.gone {K:PySem.W.Frag} {mg:Str->Option Value} {B Bi Hi H:Hp} {σ:St} {ρ:Rho} (R:Rel K mg B Bi Hi H σ ρ):Rel K mg B Bi Hi H (σ.set i none) (ρ.set i .un) where
 len:=by rw [List.length_set,List.length_set];exact R.len
 ext:=R.ext
 slot:=fun j s q=>by
  by_cases z:i=j
  ·subst z
   by_cases hl:i < ρ.length
   ·rw [List.getElem?_set_self hl] at q;cases q;trivial
   ·rw [List.getElem?_eq_none (by rw [List.length_set];omega)] at q;cases q
  ·rw [List.getElem?_set_ne z] at q ⊢
   exact R.slot j s q
 dist:=fun j l b es fs q1 q2 q3 q4=>by
  have nx:∀ {j:Nat} {es:List D},(ρ.set i .un)[j]?=some (.own es)->i≠j:=fun {j es} q e=>by
   subst e
   by_cases hl:i < ρ.length
   ·rw [List.getElem?_set_self hl] at q;cases q
   ·rw [List.getElem?_eq_none (by rw [List.length_set];omega)] at q;cases q
  have n1:=nx q1
  have n2:=nx q2
  rw [List.getElem?_set_ne n1] at q1 q3
  rw [List.getElem?_set_ne n2] at q2 q4
  exact R.dist j l b es fs q1 q2 q3 q4
theorem zNn (W:Good X G k) (O:Own X) (hT:∀ c,tb.contains c=true->Cat X.K X.mg ce c) (hg:Gl X ce) (hN:X.N.Nodup) (hi:X.N[i]?=some n) (hk:X.env.scope.names.lookup n=some .local)
  (hb:lI X G body fb) (hh:∀ ea,GoodH (lF X ea)->eX (lF X ea) (G0 G) (b₀::suite) fh) (hd:(ce==("__debug__" : Str))=false:=by decide):
  PSd X G (.Try body [.ExceptHandler (some (.Name ce np)) (some n) (b₀::suite) hpos] [] [] pos) (zKC tb i fb fh):=by
 intro pins s σ H E I q
 obtain ⟨ρ,Hi,R,h⟩:=q
 unfold zKC at h
 have hno:fb ρ≠.no:=fun z=>by rw [z] at h;exact h
 refine wpAny_Try_except ?_
 refine wpAny_mono (hb pins s σ H E ρ Hi _ I R hno ?_ ?_) (fun f s1 q=>?_) fun _ _ z=>z
 ·cases z:fb ρ with
  | no=>exact absurd z hno
  | err c=>trivial
  | ok f=>rw [z] at h;exact h
 ·rintro c ev s' z ⟨s1,H1,ea,cls,Hi',H',rfl,I1,hc,F,e1,sm⟩
  rw [z] at h
  have h:Fin X G Hi E (if tb.contains c=true then (match fh (ρ.set i (.exc c)) with
   | .ok (.nx ρ')=>.ok (.nx (ρ'.set i .un))
   | _=>.no) else .no):=h
  by_cases htb:tb.contains c=true
  ·rw [if_pos htb] at h
   obtain ⟨C,CE,m1,m2,T1,T2,T3⟩:=hT c htb
   rw [m1] at hc
   cases hc
   obtain ⟨B,a0,hf,cov⟩:=F.fly
   have hst:X.stack=X.env::X.outer:=O.stk
   have hfr:X.A.frames=some (X.env::X.outer):=by rw [I1.ok.frames,hst]
   have hf1:=hf
   rw [hst] at hf1
   refine wpAny_looks_onW hfr O.fr hf1 fun h4 held4 up4=>?_
   refine wpAny_landsW held4 fun h5 fly5 up5=>?_
   have up5':=up4.trans up5
   have fly5':Heap.FlyingW B X.stack ea (.ref C) a0 h5:=by rw [hst];exact fly5
   have I5:=Fly.stay I1 F hf cov fly5' up5' (t':=s'.toks)
   have tyAt:∀ {h6:Heap},Heap.FlyingW B X.stack ea (.ref C) a0 h6->zJN ea C h6:=fun z=>z.there
   refine wpAny_handleBy_cons (codeAny_handlers_test (qW (X:=lF X ea) (I5.clause ea) hg m2 ?_ hd)) (by intro q;cases q)
   refine zEY T2 T3 I5.kIn (tyAt fly5') ?_
   refine codeAny_handlers_suite_as ?_
   refine lands_againW fly5' fun h6 fly6 up6=>?_
   have I6:=Fly.stay I1 F hf cov fly6 (up5'.trans up6) (t':=s'.toks)
   have hnew:s1.heap.get? ea=none:=F.new
   have here:∀ {b:Addr} {o:Obj},s1.heap.get? b=some o->b≠ea:=fun {b o} e z=>by rw [z,hnew] at e;cases e
   have hs0:X.s₀.heap.get? ea=none:=by
    cases q:X.s₀.heap.get? ea with
    | none=>rfl
    | some o=>
     obtain ⟨o1,e1⟩:=I1.there0 O q
     rw [hnew] at e1;cases e1
   have hloc:ea≠X.env.locals:=by
    obtain ⟨_,⟨o,_,_,ho,_⟩,_⟩:=I1.loc
    exact Ne.symm (here ho)
   have hcell:∀ x c,X.env.cells.lookup x=some c->c≠ea:=fun x c e=>by
    obtain ⟨v,o,ho,_⟩:=I1.cell x c e
    exact here ho
   have hpin:∀ p∈X.pn++pins,p.1≠ea:=fun p hp=>here (I1.pin p hp).1
   obtain ⟨oe,vs,q1,q2,q3,_⟩:=fly6.first
   have I7:=I6.track (o:=.ext (zGZ ea C)) F.ne hs0 hloc hcell hpin ⟨⟨oe,vs,q1,q2,q3⟩,⟨oe,q1⟩,fun g1 g2 ⟨o,vs,p1,p2,p3⟩ k=>⟨o,vs,k o p1,p2,p3⟩⟩
   have hB:G.B ea=none:=by
    cases q:G.B ea with
    | none=>rfl
    | some o=>
     obtain ⟨o',z2⟩:∃ o',H1 ea=some o':=by
      rcases (R.ext.h.trans sm).k _ _ q with z | ⟨_,ps',_,z⟩
      ·exact ⟨_,z⟩
      ·exact ⟨_,z⟩
     obtain ⟨ob,z3⟩:=(I1.hok ea o' z2).here
     rw [hnew] at z3;cases z3
   have R7:=(R.grow e1).setExc (i:=i) F.ne hB m1
   refine oK I7 hN hi (.inl hk) (v:=.ref ea) rfl (fun s7 I8=>?_) (.inr hk)
   have WH:GoodH (lF X ea):=⟨W.u⟩
   have hfin:∃ ρ',fh (ρ.set i (.exc c))=.ok (.nx ρ')/\Fin X G Hi E (.ok (.nx (ρ'.set i .un))):=by
    cases zz:fh (ρ.set i (.exc c)) with
    | no=>rw [zz] at h;exact h.elim
    | err c'=>rw [zz] at h;exact h.elim
    | ok fl=>
     rw [zz] at h
     cases fl with
     | nx ρ'=>exact ⟨ρ',rfl,h⟩
     | brk ρ'=>exact h.elim
     | ctn ρ'=>exact h.elim
     | ret r=>exact h.elim
   obtain ⟨ρ',zf,hend⟩:=hfin
   have hE:=hh ea WH pins s7 (σ.set i (some (.ref ea))) _ { nx:=fun σ' H2=>E.nx (σ'.set i none) H2,rt:=fun _ _=>False } (I8.clause ea) ⟨ρ.set i (.exc c),Hi',R7,by
    rw [zf]
    exact fun σ2 Hi2 H2 s2 R2=>hend (σ2.set i none) Hi2 H2 (e1.i.trans s2) (Rel.gone (i:=i) (show jI X G Hi2 H2 σ2 ρ' from R2))⟩
   refine wpAny_mono hE (fun fl s8 q=>?_) fun _ _ z=>False.elim z
   cases fl with
   | next=>
    obtain ⟨σ2,H2,I9,q⟩:=q
    exact zJK (Inv.unclause I.ok I9) hN hi hk fun s9 I10=>⟨_,H2,I10,q⟩
   | ret v=>obtain ⟨_,_,_,_,_,q⟩:=q;exact q.elim
   | brk=>obtain ⟨_,_,_,q⟩:=q;exact q.elim
   | cont=>obtain ⟨_,_,_,q⟩:=q;exact q.elim
  ·rw [if_neg htb] at h;exact h.elim
 ·cases f with
  | next=>exact wpAny_execs_nil q
  | ret v=>exact q
  | brk=>exact q
  | cont=>exact q
end
end L3
namespace L3
open PySem PySem.Spec PyProof.Rows L2 PySem.W
unseal PEd PEf PTd PWd PAd PSd eX POd PGd jL PId PSx lI
def zMj (mg:Str->Option Value) (x:Str) (v:V) (cv:Value):Prop:=cY v cv/\(mg x=some cv∨(mg x=none/\bootBuiltins x=some cv/\x ≠ "__name__"))
def EK (K:Frag) (mg:Str->Option Value) (anc:List (Str×List Str)) (xs:List Str):Prop:=
 ∀ c l,anc.lookup c=some l->∃ C,mg c=some (.ref C)/\ExK K C/\∀ x,xs.contains x=true->∃ v cv,zMj mg x v cv/\(∃ z,(v=.ref z∨∃ T,v=.ty T))/\kitOne K (.ref C) cv=some (l.contains x)
section
variable {X:Cx} {G:Gx} {a:Expr} {p q pos:Pos} {i:Nat} {anc:List (Str×List Str)} {xs:List Str} {x:Str}
theorem zLf {v:V} {cv:Value} (h:zMj X.mg x v cv) (hg:Gl X x) (hd:(x==("__debug__" : Str))=false):PE X (.Name x q) (tC v):=by
 obtain ⟨r,h | ⟨h1,h2,h3⟩⟩:=h
 ·exact zBh hg h r hd
 ·exact zIB hg h1 h2 r h3 hd
theorem zLp:uJ X (.builtin "isinstance") (fun us H Q=>∃ a C v cv b,us=[.ref a,v]/\H a=some (.ext (zGZ a C))/\ExK X.K C/\cY v cv/\kitOne X.K (.ref C) cv=some b/\Q (.bl b) H):=by
 intro pins s σ H us ws Q I r h
 obtain ⟨a,C,v,cv,b,rfl,ha,T,rv,e,q⟩:=h
 obtain ⟨u,w',rfl,rx,rc⟩:=zMN r
 cases (show u=Value.ref a from rx)
 obtain ⟨⟨o,vs,h1,h2,h3⟩,_⟩:=I.hok a _ ha
 have e1:w'=cv:=by
  cases v with
  | ref z=>cases (show w'=Value.ref z from rc);cases (show cv=Value.ref z from rv);rfl
  | ty z=>cases (show w'=Value.type z from rc);cases (show cv=Value.type z from rv);rfl
  | non=>cases (show w'=Value.none from rc);cases (show cv=Value.none from rv);rfl
  | bl z=>cases (show w'=Value.bool z from rc);cases (show cv=Value.bool z from rv);rfl
  | _=>
   exfalso
   obtain ⟨t,rfl⟩:=rv
   unfold kitOne at e
   rw [if_neg (by intro z;cases (beq_iff_eq.mp z))] at e
   simp [kitCls] at e
 subst e1
 exact PySem.W.kia_one (zHd T) I.kIn ⟨o,h1,h2⟩ e (fun z=>nomatch z) fun tk=>⟨.bl b,H,I.tok _,rfl,q⟩
theorem zBN (hK:EK X.K X.mg anc xs) (hx:xs.contains x=true) (hgi:Gl X "isinstance") (hm:X.mg "isinstance" = none) (hv:PE X a (zBQ i)) (hg:Gl X x) (hd:(x==("__debug__" : Str))=false:=by decide)
  (h1:starEach [a,.Name x q] X.env=(false,eval a X.env)::starEach [.Name x q] X.env:=by rfl) (h2:starEach [.Name x q] X.env=(false,eval (.Name x q) X.env)::starEach [] X.env:=by rfl) (hpl:(backTo pos (starEach [.Name x q] X.env)).any (·.1)=false:=by rfl):
  PEd X G (.Call (.Name "isinstance" p) [a,.Name x q] [] pos) (zHL anc i [x]):=by
 intro pins s σ H Q I w
 obtain ⟨ρ,Hi,R,ou⟩:=w
 unfold zHL at ou
 cases z:ρ[i]? with
 | none=>rw [z] at ou;exact ou.elim
 | some sl=>
  rw [z] at ou
  cases sl with
  | exc c=>
   obtain ⟨ad,C,o1,o2,o3,o4,o5⟩:=R.slot i _ z
   cases zl:anc.lookup c with
   | none=>simp only [zl] at ou;exact ou.elim
   | some l=>
    simp only [zl] at ou
    obtain ⟨C',m1,T,hxs⟩:=hK c l zl
    rw [o5] at m1
    cases m1
    obtain ⟨v,cv,hcl,_,hk⟩:=hxs x hx
    refine vU zLp hgi hm boot_isinstance (jN hv (jN (zLf hcl hg hd) pX h2) h1) (by decide) (by decide) h1 hpl pins s σ H Q I ?_
    refine ⟨.ref ad,o1,ad,C,v,cv,_,rfl,o2,T,hcl.1,hk,?_⟩
    have:=ou.here R.s (.bl (l.contains x)) (by simpa using IsD.bl (l.contains x))
    exact this
  | un=>exact ou.elim
  | val d=>exact ou.elim
  | own ds=>exact ou.elim
  | tab T=>exact ou.elim
end
end L3
namespace L3
open PySem PySem.Spec PyProof.Rows L2 PySem.W
unseal PEd PEf PTd PWd PAd PSd eX POd PGd jL PId PSx lI
theorem uQ {α β:Type} [BEq α] [LawfulBEq α] {a:α} {b:β}:∀ {l:List (α×β)},l.lookup a=some b->(a,b)∈l
 | [],h=>by cases h
 | (x,y)::l,h=>by
  rw [List.lookup_cons] at h
  split at h
  ·rename_i e
   cases h
   rw [beq_iff_eq.mp e]
   exact List.mem_cons_self
  ·exact List.mem_cons_of_mem _ (uQ h)
section
variable {K:Frag} {h:Heap} {mg:Str->Option Value} {x c ce:Str} {C CE:Addr}
theorem uT {newId:String} {bmB:List Value} {B initId:String} (X:K.In h) (G:h.Ns mainGlobals mg) (e:nsIn K mainGlobals x=some (some (.ref C))) (q:excIn K C bmB newId=true) (F:ExcBaseFacts B newId initId bmB):∃ C,Err K mg x C:=by
 refine ⟨C,⟨fun h' X'=>⟨bmB,newId,B,initId,⟨mg_of X G e,?_⟩,F⟩⟩⟩
 unfold excIn at q
 split at q
 ·rename_i dd cd sl ho
  split at q
  ·rename_i C' bm k0 k1 k2 k3 n k5 hm hs
   simp only [Bool.and_eq_true,beq_iff_eq,Bool.not_eq_true'] at q
   obtain ⟨⟨⟨⟨⟨rfl,rfl⟩,hdel⟩,ht⟩,hok⟩,hni⟩:=q
   obtain ⟨nm,bs,mro,ns,qn,hd,sn,sub,ab,col,del⟩:=cd
   dsimp only at hm hdel hok hni
   subst hm hdel
   have hsl:sl=#[k0,k1,k2,k3,some (.builtin n),k5]:=by
    obtain ⟨l⟩:=sl
    simp only at hs
    rw [hs]
   subst hsl
   exact ⟨bm,ns,nm,qn,bs,hd,sn,sub,ab,col,dd,k0,k1,k2,k3,k5,_,X' _ _ ho,.of_isNs (isNs_of_in X' hok),nsMap_none_of_in X' hok hni,tail_of_in X' ht⟩
  ·cases q
 ·cases q
theorem zIf (q:hasDictIn K C=true):(clsIn K C).isSome=true:=by
 obtain ⟨cd,hc,_⟩:=any_some q
 rw [hc];rfl
theorem vC (h1:hasDictIn K C=true) (h2:findIn K (.ref C) "__getattribute__" = some (some (.builtin "BaseException.__getattribute__"))) (h3:findIn K (.ref C) "__getattr__" = some none) (h4:findIn K (.ref C) "__class__" = some (some (.builtin "object.__class__")))
  (h5:specialIn K (.builtin "object.__class__") "__get__" = some (some (.builtin "getset_descriptor.__get__"))) (h6:takesIn K (.builtin "object.__class__")=some true) (h7:mroIn K C (.type "object")=some true) (h8:mroIn K C (.type "BaseException")=some true):ExK K C:=
 ⟨zIf h1,h2,h3,h4,h5,h6,h7,h8⟩
theorem zDF (h1:typeIn K (.ref CE)=some (.type "type")) (h2:hasDictIn K CE=true) (h3:mroIn K CE (.type "BaseException")=some true):CaK K CE:=⟨h1,zIf h2,h3⟩
theorem gP (X:K.In h) (G:h.Ns mainGlobals mg) (e:nsIn K mainGlobals x=some (some (.ref C))):zMj mg x (.ref C) (.ref C):=⟨rfl,.inl (mg_of X G e)⟩
theorem xF {T:String} (X:K.In h) (G:h.Ns mainGlobals mg) (e:nsIn K mainGlobals x=some none) (hb:bootBuiltins x=some (.type T)) (hn:x ≠ "__name__"):zMj mg x (.ty T) (.type T):=⟨rfl,.inr ⟨mg_none_of X G e,hb,hn⟩⟩
end
end L3
namespace L3
open PySem PySem.Spec PyProof.Rows L2
unseal PEd PEf PTd PWd PAd PSd eX POd PGd jL PId PSx lI
def zBt (env:Env):List (Str×NameKind)->List (Str×Addr)->List (Str×Addr)
 | [],cs=>cs
 | (n,k)::r,cs=>zBt env r (if k==.free then (n,(env.cells.lookup n).getD 0)::cs else cs)
theorem zHJ {env:Env}:∀ (l:List (Str×NameKind)) (cs:List (Str×Addr)),(∀ p∈l,p.2=.free->∃ c,env.cells.lookup p.1=some c)->
  (forIn l cs (fun p (r:List (Str×Addr))=>if (p.2==NameKind.free)=true then (do let a <-cellOf env p.1;pure (ForInStep.yield ((p.1,a)::r))) else pure (ForInStep.yield r)):Sem (List (Str×Addr)))=pure (zBt env l cs)
 | [],cs,_=>by simp [zBt]
 | (n,k)::r,cs,h=>by
  rw [List.forIn_cons,zBt]
  have ih:=fun cs=>zHJ r cs fun p hp=>h p (List.mem_cons_of_mem _ hp)
  by_cases e:(k==NameKind.free)=true
  ·obtain ⟨c,hc⟩:=h (n,k) List.mem_cons_self (beq_iff_eq.mp e)
   simp only [e,if_true,cellOf,hc,pure_bind,Option.getD_some]
   exact ih _
  ·simp only [e,Bool.false_eq_true,if_false,pure_bind]
   exact ih _
theorem zHG {env:Env} {scope:Scope} (h:∀ p∈scope.names,p.2=.free->∃ c,env.cells.lookup p.1=some c):closureFor scope env=pure (zBt env scope.names []):=by
 have:=zHJ scope.names [] h
 unfold closureFor
 rw [<-this]
 simp
theorem sL {env:Env}:∀ (l:List (Str×NameKind)) (cs:List (Str×Addr)),(∀ p∈l,p.2=.free->∃ c,env.cells.lookup p.1=some c)->(∀ y c,cs.lookup y=some c->env.cells.lookup y=some c)->
  ∀ y c,(zBt env l cs).lookup y=some c->env.cells.lookup y=some c
 | [],cs,_,h,y,c,e=>h y c e
 | (n,k)::r,cs,hl,h,y,c,e=>by
  rw [zBt] at e
  refine sL r _ (fun p hp=>hl p (List.mem_cons_of_mem _ hp)) (fun y c e=>?_) y c e
  by_cases z:(k==NameKind.free)=true
  ·obtain ⟨c',hc⟩:=hl (n,k) List.mem_cons_self (beq_iff_eq.mp z)
   simp only [z,if_true,List.lookup_cons,hc,Option.getD_some] at e
   cases w:y==n with
   | true=>rw [w] at e;cases e;rw [beq_iff_eq.mp w];exact hc
   | false=>rw [w] at e;exact h y c e
  ·simp only [z,Bool.false_eq_true,if_false] at e
   exact h y c e
theorem zCz {env:Env}:∀ (l:List (Str×NameKind)) (cs:List (Str×Addr)) (y:Str),(∃ c,cs.lookup y=some c)->∃ c,(zBt env l cs).lookup y=some c
 | [],cs,y,h=>h
 | (n,k)::r,cs,y,⟨c,h⟩=>by
  rw [zBt]
  refine zCz r _ y ?_
  split
  ·rw [List.lookup_cons]
   cases y==n with
   | true=>exact ⟨_,rfl⟩
   | false=>exact ⟨c,h⟩
  ·exact ⟨c,h⟩
theorem rT {env:Env}:∀ (l:List (Str×NameKind)) (cs:List (Str×Addr)) (y:Str),(y,NameKind.free)∈l->∃ c,(zBt env l cs).lookup y=some c
 | (n,k)::r,cs,y,h=>by
  rw [zBt]
  rcases List.mem_cons.mp h with e | h
  ·cases e
   refine zCz r _ _ ⟨(env.cells.lookup n).getD 0,?_⟩
   simp only [beq_self_eq_true,if_true,List.lookup_cons]
  ·exact rT r _ y h
theorem bQ {α:Type}:∀ {l:List (Str×α)} {y:Str} {k:α},l.lookup y=some k->(y,k)∈l
 | (n,k')::r,y,k,h=>by
  rw [List.lookup_cons] at h
  cases z:y==n with
  | true=>rw [z] at h;cases h;rw [beq_iff_eq.mp z];exact List.mem_cons_self
  | false=>rw [z] at h;exact List.mem_cons_of_mem _ (bQ h)
theorem cC {env:Env}:∀ {l:List (Str×NameKind)} {y:Str} {k:NameKind},
  (l.map fun (n,k)=>if (k==NameKind.free && env.scope.kind==.function && env.kindOf n==some .cell) then (n,NameKind.cell) else (n,k)).lookup y=some k->
  l.lookup y=some k∨(k=.cell/\l.lookup y=some .free)
 | (n,k')::r,y,k,h=>by
  rw [List.map_cons] at h
  rw [List.lookup_cons]
  by_cases c:(k'==NameKind.free && env.scope.kind==.function && env.kindOf n==some .cell)=true
  ·simp only [c,if_true,List.lookup_cons] at h
   cases z:y==n with
   | true=>
    rw [z] at h
    cases h
    refine .inr ⟨rfl,?_⟩
    simp only [Bool.and_eq_true] at c
    rw [beq_iff_eq.mp c.1.1]
   | false=>rw [z] at h;exact cC h
  ·simp only [c,Bool.false_eq_true,if_false,List.lookup_cons] at h
   cases z:y==n with
   | true=>rw [z] at h;exact .inl h
   | false=>rw [z] at h;exact cC h
def msk (x y:Str):Str:=if y=x then ("" : Str) else y
structure BlkOk (X:Cx) (x:Str) (scope:Scope):Prop where
 kind:scope.kind=.function
 cell:∀ y∈scope.names,y.2≠.cell
 loc:scope.names.lookup x=some .local
 names:∀ y∈scope.names,y.2=.local->scope.names.lookup y.1=some .local
 fre:∀ p∈scope.names,p.2=.free->X.env.kindOf p.1=some .cell∨X.env.kindOf p.1=some .free
 oth:∀ y∈X.N,y≠x->scope.names.lookup y≠some .local
 emp:scope.names.lookup ("" : Str)=none
def cxC (X:Cx) (x:Str) (scope:Scope) (C:Addr) (s₂:Shared) (H₂:Hp) (fp:List Addr):Cx:=
  { prog:=X.prog,w:=X.w,K:=X.K,mg:=X.mg,base:=X.base,A:=X.A,N:=X.N.map (msk x)++[x],s₀:=s₂,H₀:=H₂,env:=compEnvC scope (zBt X.env scope.names []) C X.env,outer:=X.stack,stack:=X.stack,
    ex:=fp,fn:=fun _=>false,calm:=X.calm,pn:=X.pn,xe:=fun _ _=>False }
section
variable {X:Cx} {pins:List (Addr×Obj)} {σ:St} {H:Hp} {s₂:Shared} {x:Str} {scope:Scope} {fp:List Addr} {D C:Addr} {h₁:Heap}
theorem BlkOk.cl (B:BlkOk X x scope) (I:Inv X pins σ H s₂):∀ p∈scope.names,p.2=.free->∃ c,X.env.cells.lookup p.1=some c:=fun p hp e=>I.ok.has p.1 (B.fre p hp e)
theorem zMx (I:Inv X pins σ H s₂) (B:BlkOk X x scope) (hfp:∀ b∈fp,qJ X pins H b) (hfl:∀ b∈fp,b < s₂.heap.objs.size) (hD:s₂.heap.objs.size<=D) (hC:s₂.heap.objs.size<=C) (hDC:D≠C)
  (old:∀ b o,s₂.heap.get? b=some o->h₁.get? b=some o) {n:Nat} (hacc:h₁.get? D=some { cls:=.type "list", data:=.seq ([]:List Value).toArray n }) {m:Str->Option Value} (hns:h₁.Ns C m) (t:Nat):
  Inv (cxC X x scope C s₂ H fp) pins (σ++[none]) (upd H D (.lst [])) { s₂ with heap:=h₁,toks:=t }:=by
 have sub:=sL scope.names [] (B.cl I) (fun y c e=>nomatch e)
 have old_lt:∀ {b:Addr} {o:Obj},s₂.heap.get? b=some o->b≠D/\b≠C:=fun e=>⟨Nat.ne_of_lt (Nat.lt_of_lt_of_le (Heap.lt_size e) hD),Nat.ne_of_lt (Nat.lt_of_lt_of_le (Heap.lt_size e) hC)⟩
 have free:∀ {b:Addr},b≠D->H b=none->upd H D (.lst []) b=none:=fun n e=>by rw [bC n];exact e
 refine ⟨⟨I.ok.mod,B.kind,I.ok.glob,I.ok.blt,hC,fun y z c e1 e2=>I.ok.inj y z c (sub y c e1) (sub z c e2),fun y hy=>?_,fun y c e=>(nomatch e),I.ok.hd,I.ok.frames,.inl rfl,fun b hb=>⟨Nat.ne_of_lt (Nat.lt_of_lt_of_le (hfl b hb) hC),fun y c e=>(hfp b hb).2.2.2.2.1 y c (sub y c e)⟩,
  I.bs,Nat.le_trans I.ok.bsz I.sz,fun b o e hb=>?_,fun b hb z=>?_,I.stack,I.stkFree⟩,rfl,I.bare,Un.laid old hD (I.hok.fresh hD),⟨m,hns,fun i y v e1 e2 e3=>?_⟩,fun y c e=>?_,free (Ne.symm hDC) (I.hok.fresh hC),fun y c e=>?_,fun p hp=>?_,I.hok.laid old hD ⟨Nat.zero_le _,[],n,.nil,hacc⟩,?_⟩
 ·have:∃ k,(k=NameKind.cell∨k=NameKind.free)/\((relabel scope X.env).names).lookup y=some k:=hy.elim (fun h=>⟨_,.inl rfl,h⟩) fun h=>⟨_,.inr rfl,h⟩
  obtain ⟨k,hk,e⟩:=this
  have e':(y,NameKind.free)∈scope.names:=by
   rcases cC e with z | ⟨_,z⟩
   ·rcases hk with rfl | rfl
    ·exact absurd rfl (B.cell _ (bQ z))
    ·exact bQ z
   ·exact bQ z
  exact rT scope.names [] y e'
 ·rcases (hfp b hb).2.2.2.1 with z | z
  ·exact I.ok.noex b o e z
  ·exact absurd (Nat.lt_of_lt_of_le (Heap.lt_size e) (Nat.le_trans I.ok.bsz z)) (Nat.lt_irrefl _)
 ·rcases List.mem_cons.mp (I.stkSub b z) with w | w
  ·exact (hfp b hb).2.1 w
  ·exact (hfp b hb).2.2.1 w
 ·
  have hi:i < σ.length:=by
   by_cases hi:i < σ.length
   ·exact hi
   ·exfalso
    rw [List.getElem?_append_right (by omega)] at e2
    cases q:i - σ.length with
    | zero=>rw [q] at e2;cases e2
    | succ j=>rw [q] at e2;cases e2
  rw [List.getElem?_append_left hi] at e2
  have e1':(X.N.map (msk x)++[x])[i]?=some y:=e1
  rw [List.getElem?_append_left (by rw [List.length_map,<-I.len];exact hi),List.getElem?_map] at e1'
  cases q:X.N[i]? with
  | none=>rw [q] at e1';cases e1'
  | some z=>
   rw [q] at e1'
   have e1'':msk x z=y:=Option.some.inj e1'
   have hz:z∈X.N:=List.mem_of_getElem? q
   have vis:∃ k,((relabel scope X.env).names).lookup y=some k:=e3.elim (fun h=>⟨_,h⟩) fun h=>h.elim (fun h=>⟨_,h⟩) fun h=>⟨_,h⟩
   have hzx:z≠x:=fun w=>by
    obtain ⟨k,hk⟩:=vis
    have:y=("" : Str):=by rw [<-e1'',w];exact if_pos rfl
    rw [this] at hk
    rcases cC hk with h | ⟨_,h⟩<;>(rw [B.emp] at h;cases h)
   have hy:z=y:=by rw [<-e1''];exact (if_neg hzx).symm
   subst hy
   have fr:(z,NameKind.free)∈scope.names:=by
    rcases e3 with h | h | h
    ·rcases cC h with h | ⟨h,_⟩
     ·exact absurd h (B.oth z hz hzx)
     ·cases h
    ·rcases cC h with h | ⟨_,h⟩
     ·exact absurd rfl (B.cell _ (bQ h))
     ·exact bQ h
    ·rcases cC h with h | ⟨h,_⟩
     ·exact bQ h
     ·cases h
   have kd:=B.fre _ fr rfl
   obtain ⟨m0,hn0,hl⟩:=I.loc
   obtain ⟨u,ru,lk⟩:=hl i z v q e2 (kd.elim (fun h=>.inr (.inl h)) fun h=>.inr (.inr h))
   refine ⟨u,ru,.inr ⟨?_,?_⟩⟩
   ·rcases e3 with h | h | h
    ·rcases cC h with h | ⟨h,_⟩
     ·exact absurd h (B.oth z hz hzx)
     ·cases h
    ·exact .inl h
    ·exact .inr h
   ·rcases lk with ⟨k1,_⟩ | ⟨_,c,hc,hcell⟩
    ·rcases kd with kd | kd<;>(rw [kd] at k1;cases k1)
    ·obtain ⟨c',hc'⟩:=rT (env:=X.env) scope.names [] z fr
     have:=sub z c' hc'
     rw [hc] at this
     cases this
     obtain ⟨o,ho,hd⟩:=hcell
     exact ⟨c,hc',o,old _ _ ho,hd⟩
 ·obtain ⟨v,o,ho,hd⟩:=I.cell y c (sub y c e)
  exact ⟨v,o,old _ _ ho,hd⟩
 ·obtain ⟨v,o,ho,hd⟩:=I.cell y c (sub y c e)
  exact free (old_lt ho).1 (I.freeC y c (sub y c e))
 ·obtain ⟨e,n,ne,nf,d⟩:=I.pin p hp
  refine ⟨old _ _ e,free (old_lt e).1 n,(old_lt e).2,fun z=>?_,d⟩
  rcases List.mem_cons.mp (I.stkSub _ z) with w | w
  ·exact ne w
  ·exact nf w
 ·show (σ++[none]).length=(X.N.map (msk x)++[x]).length
  rw [List.length_append,List.length_append,List.length_map,I.len];rfl
end
end L3
namespace L3
open PySem PySem.Spec PyProof.Rows L2
unseal PEd PEf PTd PWd PAd PSd eX POd PGd jL PId PSx lI
section
variable {K:PySem.W.Frag} {mg:Str->Option Value} {B Bi Hi H Hi' H':Hp} {σ:St} {ρ:Rho}
theorem Rel.snoc {v:V} {d:D} (R:Rel K mg B Bi Hi H σ ρ) (h:IsD K Hi v d):Rel K mg B Bi Hi H (σ++[some v]) (ρ++[.val d]) where
 len:=by rw [List.length_append,List.length_append,R.len];rfl
 ext:=R.ext
 slot:=fun j s q=>by
  by_cases hl:j < ρ.length
  ·rw [List.getElem?_append_left hl] at q
   rw [List.getElem?_append_left (by rw [R.len];exact hl)]
   exact R.slot j s q
  ·rw [List.getElem?_append_right (by omega)] at q
   rw [List.getElem?_append_right (by rw [R.len];omega),R.len]
   cases z:j - ρ.length with
   | zero=>rw [z] at q;cases q;exact ⟨v,rfl,h⟩
   | succ n=>rw [z] at q;cases q
 dist:=fun j k a ds es q1 q2 q3 q4=>by
  have own:∀ {j:Nat} {ds:List D},(ρ++[Sl.val d])[j]?=some (.own ds)->j < ρ.length:=fun {j ds} q=>by
   by_cases hl:j < ρ.length
   ·exact hl
   ·rw [List.getElem?_append_right (by omega)] at q
    cases z:j - ρ.length with
    | zero=>rw [z] at q;cases q
    | succ n=>rw [z] at q;cases q
  have h1:=own q1
  have h2:=own q2
  rw [List.getElem?_append_left h1] at q1
  rw [List.getElem?_append_left h2] at q2
  rw [List.getElem?_append_left (by rw [R.len];exact h1)] at q3
  rw [List.getElem?_append_left (by rw [R.len];exact h2)] at q4
  exact R.dist j k a ds es q1 q2 q3 q4
theorem Ext.rewrite {a:Addr} {o:HO} (e:Ext Hi H Hi' H') (hn:H a=none) (hi:Hi' a=none) (hl:∃ xs,H' a=some (.lst xs)):Ext Hi H Hi' (upd H' a o) where
 i:=e.i
 h:=⟨fun b u z=>by rw [bC (bB z hn)];exact e.h.k _ _ z,fun P z=>by
  obtain ⟨xs,hl⟩:=hl
  exact (e.h.t P z).put (fun ps y=>by rw [hl] at y;cases y) (fun ob u y=>by rw [hl] at y;cases y)⟩
 s:=fun b u z=>by rw [bC (bB z hi)];exact e.s _ _ z
 n:=e.n
theorem IsDs.snoc {v:V} {d:D} (h:IsD K H v d):∀ {vs:List V} {ds:List D},IsDs K H vs ds->IsDs K H (vs++[v]) (ds++[d])
 | _,_,.nil=>.cons h .nil
 | _,_,.cons r t=>.cons r (IsDs.snoc h t)
end
theorem wX {α:Type} {r:Res α} {a:α} (h:noErr r=.ok a):r=.ok a:=by
 cases r with
 | ok b=>exact h
 | err c=>cases h
 | no=>cases h
theorem zDk {t:Tv} {f:Ev} {ρ:Rho} {d:D} {ds es:List D} (h:iI t f ρ (d::ds)=.ok es):
  (t (ρ++[.val d])=.ok false/\iI t f ρ ds=.ok es)∨(t (ρ++[.val d])=.ok true/\∃ e es',f (ρ++[.val d])=.ok e/\iI t f ρ ds=.ok es'/\es=e::es'):=by
 rw [iI] at h
 cases ht:noErr (t (ρ++[.val d])) with
 | no=>rw [ht] at h;cases h
 | err c=>rw [ht] at h;cases h
 | ok c=>
  rw [ht] at h
  have ht':=wX ht
  cases c with
  | false=>exact .inl ⟨ht',h⟩
  | true=>
   refine .inr ⟨ht',?_⟩
   have h':((noErr (f (ρ++[.val d]))).bind fun e=>(iI t f ρ ds).bind fun es=>.ok (e::es))=.ok es:=h
   cases hf:noErr (f (ρ++[.val d])) with
   | no=>rw [hf] at h';cases h'
   | err c=>rw [hf] at h';cases h'
   | ok e=>
    rw [hf] at h'
    have h'':((iI t f ρ ds).bind fun es=>.ok (e::es))=.ok es:=h'
    cases hr:iI t f ρ ds with
    | no=>rw [hr] at h'';cases h''
    | err c=>rw [hr] at h'';cases h''
    | ok es'=>
     rw [hr] at h''
     cases h''
     exact ⟨e,es',wX hf,rfl,rfl⟩
theorem xU {t:Tv} {f:Ev} {ρ:Rho} {c:Str}:∀ {ds:List D},iI t f ρ ds≠.err c
 | []=>fun h=>by cases h
 | d::ds=>fun h=>by
  rw [iI] at h
  cases ht:noErr (t (ρ++[.val d])) with
  | no=>rw [ht] at h;cases h
  | err c=>cases q:t (ρ++[.val d])<;>(rw [q] at ht;cases ht)
  | ok b=>
   rw [ht] at h
   cases b with
   | false=>exact xU h
   | true=>
    have h':((noErr (f (ρ++[.val d]))).bind fun e=>(iI t f ρ ds).bind fun es=>.ok (e::es))=.err c:=h
    cases hf:noErr (f (ρ++[.val d])) with
    | no=>rw [hf] at h';cases h'
    | err c=>cases q:f (ρ++[.val d])<;>(rw [q] at hf;cases hf)
    | ok e=>
     rw [hf] at h'
     cases hr:iI t f ρ ds with
     | no=>simp only [Res.bind,hr] at h';cases h'
     | err c'=>exact xU hr
     | ok es=>simp only [Res.bind,hr] at h';cases h'
@[irreducible] def PTs (X:Cx) (G:Gx) (ifs:List Expr) (t:Tv):Prop:=
 ∀ (pins:List (Addr×Obj)) (s:Shared) (σ:St) (H:Hp) (Q:Bool->Hp->Prop),Inv X pins σ H s->tTb X G t σ H Q->
  wpAny (model X.prog X.w) X.A (forIn ifs true fun c r=>if r=true then do let ok <-isTrue c X.env (eval c X.env);pure (ForInStep.yield ok) else pure (ForInStep.yield r)) (TP X pins σ Q) X.xe s
unseal PTs
theorem nX {X:Cx} {G:Gx}:PTs X G [] oW:=fun pins s σ H Q I ⟨ρ,Hi,R,o⟩=>wpAny_tests_nil ⟨H,I,Out.here (a:=true) o R.s⟩
end L3
namespace L3
open PySem PySem.Spec PyProof.Rows L2
unseal PEd PEf PTd PWd PAd PSd eX POd PGd jL PId PSx lI PTs
section
variable {X:Cx} {G:Gx} {elt iter:Expr} {x:Str} {px pos:Pos} {ifs:List Expr} {scope:Scope} {it:Fv} {t:Tv} {f:Ev} {k:Nat}
theorem zIE {M:Model} {A:Around} {α:Type} {m:Sem α} {itv u:Value} {s:Shared} {Q1:Unit->Shared->Prop} {R1:α->Shared->Prop} {E:Value->Shared->Prop} (h:wpAny M A (letOwnedTupleGo (.Name x px) itv u) Q1 E s)
  (k:∀ s5,Q1 () s5->wpAny M A m R1 E s5):wpAny M A m R1 E s:=by
 have key:=wpAny_bind (f:=fun _:Unit=>m) (wpAny_mono h (fun _ s5 h5=>k s5 h5) fun _ _ z=>z)
 have e:(letOwnedTupleGo (.Name x px) itv u >>= fun _=>m)=m:=pure_bind () fun _=>m
 rw [e] at key
 exact key
theorem zFm {N:List Str} (hN:N.Nodup) (h0:("" : Str)∉N) (hx:x≠("" : Str)):(N.map (msk x)++[x]).Nodup:=by
 rw [List.nodup_append]
 refine ⟨?_,List.nodup_cons.mpr ⟨by simp,List.nodup_nil⟩,fun a ha b hb e=>?_⟩
 ·induction N with
  | nil=>exact List.nodup_nil
  | cons y N ih=>
   rw [List.map_cons,List.nodup_cons]
   obtain ⟨hy,hN⟩:=List.nodup_cons.mp hN
   refine ⟨fun hm=>?_,ih hN fun z=>h0 (List.mem_cons_of_mem _ z)⟩
   obtain ⟨z,hz,e⟩:=List.mem_map.mp hm
   unfold msk at e
   by_cases c1:z=x
   ·by_cases c2:y=x
    ·exact hy (by rw [c2,<-c1];exact hz)
    ·rw [if_pos c1,if_neg c2] at e;exact h0 (by rw [e];exact List.mem_cons_self)
   ·by_cases c2:y=x
    ·rw [if_neg c1,if_pos c2] at e;exact h0 (by rw [<-e];exact List.mem_cons_of_mem _ hz)
    ·rw [if_neg c1,if_neg c2] at e;exact hy (by rw [<-e];exact hz)
 ·obtain ⟨z,hz,e1⟩:=List.mem_map.mp ha
  rw [List.mem_singleton] at hb
  subst hb
  subst e
  unfold msk at e1
  split at e1
  ·exact hx e1.symm
  ·rename_i c;exact c e1
structure CW where
 i:Nat
 v:List (Option V)
 H:Hp
 Hi:Hp
 ys:List V
 done:List D
 rest:List D
structure CS (Y:Cx) (pins:List (Addr×Obj)) (σ:St) (tn:Nat->Heap->Prop) (fp:List Addr) (Hi2 H2:Hp) (a:Addr) (m:Nat) (cp:Nat->Res (List D)) (es:List D) (c:CW) (s':Shared):Prop where
 inv:Inv Y pins (σ++c.v) c.H s'
 wid:c.v.length=m
 tn:tn c.i s'.heap
 fr:∀ b∈fp,c.H b=none
 ext:Ext Hi2 H2 c.Hi c.H
 acc:c.H a=some (.lst c.ys)
 hi:c.Hi a=none
 isd:IsDs Y.K c.Hi c.ys c.done
 len:c.done.length<=c.i
 cmp:cp c.i=.ok c.rest
 all:es=c.done++c.rest
def zNG (X:Cx) (pins:List (Addr×Obj)) (σ:St) (use:Option (Value->Sem Unit)) (Q':Value->Shared->Prop) (Qa:Addr->Hp->Prop):Prop:=
 ∀ (C A:Addr) (m:Str->Option Value) (s4:Shared) (H3:Hp),s4.heap.Ns C m->(∀ h',Heap.SameBut C s4.heap h'->Inv X pins σ H3 { s4 with heap:=h' })->qJ X pins H3 C->Qa A H3->
  compPost (model X.prog X.w) X.A X.xe use Q' (.ref A) C (.ok .next) s4
theorem zP (hc:X.calm=true/\TB X.K X.mg G.Bi G.B) (hr:Room k X.A) (Bk:BlkOk X x scope) (hN:X.N.Nodup) (h0:("" : Str)∉X.N) (hx0:x≠("" : Str)) (hi:PId X G (.Name x px) iter it)
  (hb:∀ (C:Addr) (s₂:Shared) (H₂:Hp) (fp:List Addr) (G':Gx),Good (cxC X x scope C s₂ H₂ fp) G' k->PTs (cxC X x scope C s₂ H₂ fp) G' ifs t/\PEd (cxC X x scope C s₂ H₂ fp) G' elt f)
  (hs:∀ x,foldedSetIterable iter X.env x=pure x:=by intro _;rfl)
  {pins:List (Addr×Obj)} {s:Shared} {σ:St} {H Hi:Hp} {ρ:Rho} {use:Option (Value->Sem Unit)} {Q':Value->Shared->Prop} {Qa:Addr->Hp->Prop} {cpos:Pos} (I:Inv X pins σ H s) (R:jI X G Hi H σ ρ)
  (ou:Out G Hi H ((mI it t f) ρ) fun ds Hi' H'=>∀ a,zGj X.K H Hi' H' a ds->Qa a H') (hend:zNG X pins σ use Q' Qa):
  wpAny (model X.prog X.w) X.A (comprehension (.ListComp elt [⟨.Name x px,iter,ifs,0⟩] scope pos) scope X.env cpos (newList []) false (eval iter X.env) use) Q' X.xe s:=by
 refine wpAny_comprehension_free (use:=use) rfl hs (zHG (Bk.cl I)) Bk.kind Bk.names ?_
 refine thn (hi pins s σ H (fun J H2=>∃ ds Hi2,Ext Hi H Hi2 H2/\rZ X.K Hi2 J ds/\Out G Hi2 H2 (if ds.length<=16777215 then iI t f ρ ds else .no) fun ds Hi' H'=>∀ a,zGj X.K H Hi' H' a ds->Qa a H') I
  ⟨ρ,Hi,R,(Out.bind ou).imp fun ds Hi2 H2 e2 o2 J gv=>⟨ds,Hi2,e2,gv,o2⟩⟩) fun v s1 h1=>thn h1 fun itv s2 h2=>?_
 obtain ⟨itA,fp,tn,J,H2,rfl,I2,T,st2,f2,ds,Hi2,e2,gv,ou2⟩:=h2
 have hlen:ds.length<=16777215:=by
  by_cases hlen:ds.length<=16777215
  ·exact hlen
  ·rw [if_neg hlen] at ou2;exact ou2.elim
 rw [if_pos hlen] at ou2
 cases hes:iI t f ρ ds with
 | no=>rw [hes] at ou2;exact ou2.elim
 | err c=>exact absurd hes xU
 | ok es=>
  rw [hes] at ou2
  have R2:jI X G Hi2 H2 σ ρ:=R.grow e2
  refine wpAny_newObj_type (wpAny_newFunctionEnv Bk.cell (by intro y hy;simp at hy) (fun h₁ hns₁ hsb₁=>?_) Bk.kind)
  dsimp only at hns₁ hsb₁ ⊢
  generalize hH2:s2.heap.push { cls:=.type "list", dict:=none,data:=.seq ([]:List Value).toArray }=HP at hns₁ hsb₁ ⊢
  have hC:HP.objs.size=s2.heap.objs.size+1:=by rw [<-hH2,Heap.size_push]
  have hDC:s2.heap.objs.size≠HP.objs.size:=by rw [hC];omega
  have ltC:∀ {b:Addr} {o:Obj},s2.heap.get? b=some o->b≠HP.objs.size:=fun e=>by rw [hC];exact Nat.ne_of_lt (Nat.lt_succ_of_lt (Heap.lt_size e))
  have old:∀ b o,s2.heap.get? b=some o->h₁.get? b=some o:=fun b o e=>hsb₁.extBut b o (ltC e) (Heap.get?_push_of_some _ (hH2 ▸ Heap.get?_push_of_some _ e))
  have hacc:h₁.get? s2.heap.objs.size=some { cls:=.type "list", data:=.seq ([]:List Value).toArray 0 }:=hsb₁.extBut _ _ hDC (Heap.get?_push_of_some _ (hH2 ▸ Heap.get?_push_size _ rfl))
  have hfl:∀ b∈fp,b < s2.heap.objs.size:=fun b hb=>by obtain ⟨o,e,_⟩:=T.obj _ _ st2 b hb;exact Heap.lt_size e
  have IE:=zMx (t:=s2.toks+([]:List (Str×Value)).length) I2 Bk f2 hfl (Nat.le_refl _) (by rw [hC];omega) hDC old hacc hns₁
  have sub:=sL scope.names [] (Bk.cl I2) (fun y c e=>nomatch e)
  have H2D:H2 s2.heap.objs.size=none:=I2.hok.fresh (Nat.le_refl _)
  have HD:H s2.heap.objs.size=none:=e2.h.none H2D
  have Hi2D:Hi2 s2.heap.objs.size=none:=e2.s.none H2D
  generalize hX:cxC X x scope HP.objs.size s2 H2 fp=Y at IE
  have GY:Good Y ⟨G.B,G.Bi,fun _ _=>False⟩ k:=by
   subst hX
   exact ⟨hc.1,hr,fun pins σ H s e s' _ h=>by obtain ⟨_,_,_,_,_,c,_,z⟩:=h;exact z.elim,PassesOwn.never,hc.2⟩
  obtain ⟨hts,hel⟩:=(hX ▸ hb HP.objs.size s2 H2 fp ⟨G.B,G.Bi,fun _ _=>False⟩ (hX.symm ▸ GY):PTs Y ⟨G.B,G.Bi,fun _ _=>False⟩ ifs t/\PEd Y ⟨G.B,G.Bi,fun _ _=>False⟩ elt f)
  have stat:∀ {H':Hp},(∀ b∈fp,H' b=none)->∀ b∈fp,qJ Y pins H' b:=fun hn b hb=>by
   subst hX
   refine ⟨hn b hb,?_,fun z=>?_,.inl hb,fun y c e=>(f2 b hb).2.2.2.2.1 y c (sub y c e),(f2 b hb).2.2.2.2.2⟩
   ·show b≠HP.objs.size
    rw [hC];exact Nat.ne_of_lt (Nat.lt_succ_of_lt (hfl b hb))
   ·rcases List.mem_cons.mp (I2.stkSub b z) with w | w
    ·exact (f2 b hb).2.1 w
    ·exact (f2 b hb).2.2.1 w
  have YN:Y.N.Nodup:=by subst hX;exact zFm hN h0 hx0
  have Yx:Y.N[σ.length]?=some x:=by
   subst hX
   show (X.N.map (msk x)++[x])[σ.length]?=some x
   rw [List.getElem?_append_right (by rw [List.length_map,I2.len];omega),List.length_map,I2.len,Nat.sub_self]
   rfl
  have Yl:Y.env.scope.names.lookup x=some .local:=by subst hX;exact lookup_relabel_local Bk.loc
  have Ye:Y.env=compEnvC scope (zBt X.env scope.names []) HP.objs.size X.env:=by subst hX;rfl
  have Yxe:∀ e s,¬ Y.xe e s:=by subst hX;exact fun _ _ h=>h
  have tn1:tn 0 h₁:=T.keep _ _ _ st2 fun b _ o e=>old b o e
  have dY:∀ s3:Shared,s3={ s2 with heap:=h₁,toks:=s2.toks+([]:List (Str×Value)).length }->
    codeAny (model X.prog X.w) X.A (.compLoop (.ListComp elt [⟨.Name x px,iter,ifs,0⟩] scope pos) 0 (.ref itA) (.ref s2.heap.objs.size) Y.env) (compPost (model X.prog X.w) X.A X.xe use Q' (.ref s2.heap.objs.size) HP.objs.size) s3:=by
   rintro s3 rfl
   subst hX
   have fr0:∀ b∈fp,upd H2 s2.heap.objs.size (.lst []) b=none:=fun b hb=>by
    rw [bC (Nat.ne_of_lt (hfl b hb))]
    exact (f2 b hb).1
   refine codeAny_compLoop_tests (fun n s'=>∃ c:CW,n=ds.length - c.i/\CS (cxC X x scope HP.objs.size s2 H2 fp) pins σ tn fp Hi2 H2 s2.heap.objs.size 1 (fun i=>iI t f ρ (ds.drop i)) es c s') ?_ ds.length
    ⟨⟨0,[none],_,Hi2,[],[],es⟩,rfl,⟨IE,rfl,tn1,fr0,(Ext.refl e2.s).trans (Ext.newF e2.s H2D),aZ,Hi2D,.nil,Nat.le_refl _,hes,rfl⟩⟩
   ·rintro n s3 ⟨⟨i,vv,H3,Hi3,ys,done,rest⟩,rfl,I3,wd3,st3,fr3,e3,hD3,hiD3,rd3,hl3,hr3,hes3⟩
    dsimp only at I3 wd3 st3 fr3 e3 hD3 hiD3 rd3 hl3 hr3 hes3 ⊢
    obtain ⟨v,rfl⟩:∃ v,vv=[v]:=by
     match vv,wd3 with
     | [v],_=>exact ⟨v,rfl⟩
    obtain ⟨w1,w2⟩:=gv Hi3 H3 e3.i e3.s i
    have lift:∀ {α:Type} {m:Sem α} {Q':α->Shared->Prop} {E:Value->Shared->Prop} {s':Shared},wpAny (model X.prog X.w) X.A m Q' (cxC X x scope HP.objs.size s2 H2 fp).xe s'->wpAny (model X.prog X.w) X.A m Q' E s':=fun h=>wpAny_mono h (fun _ _ z=>z) fun e s z=>(Yxe e s z).elim
    by_cases hlt:i < ds.length
    ·obtain ⟨d,hd⟩:∃ d,ds[i]?=some d:=⟨_,List.getElem?_eq_getElem hlt⟩
     obtain ⟨go,yl⟩:=w2 d hd
     have e4:ds.drop i=d::ds.drop (i+1):=by
      rw [List.getElem?_eq_getElem hlt] at hd
      cases hd
      exact List.drop_eq_getElem_cons hlt
     rw [e4] at hr3
     refine thn (T.item (cxC X x scope HP.objs.size s2 H2 fp) rfl rfl rfl hc.1 i pins s3 _ H3 _ I3 (stat fr3) st3 go) fun r s4 ⟨u,hru,h4⟩=>?_
     subst hru
     refine zIE h4 fun s5 h5=>?_
     obtain ⟨xv,H5,I5,r5,y5,st5,fr5⟩:=h5
     obtain ⟨Hi5,e5,rd5⟩:=yl xv H5 y5
     have I5':=I5.pinned (stat fr5) (T.obj _ _ st5)
     refine wpAny_assign_Name (oK I5' YN Yx (.inl Yl) r5 (fun s6 I6=>?_) (.inr Yl))
     have es6:(σ++[v]).set σ.length (some xv)=σ++[some xv]:=by rw [List.set_append_right _ _ (Nat.le_refl _),Nat.sub_self];rfl
     rw [es6] at I6
     have E5:Ext Hi2 H2 Hi5 H5:=e3.trans e5
     have R5:jI (cxC X x scope HP.objs.size s2 H2 fp) ⟨G.B,G.Bi,fun _ _=>False⟩ Hi5 H5 (σ++[some xv]) (ρ++[.val d]):=Rel.snoc (R2.grow E5) rd5
     obtain ⟨hD5,hiD5⟩:=e5.out hD3 hiD3
     have rd5':=rd3.mono e5.i
     have again:∀ {H8 Hi8:Hp} {ys':List V} {done' rest':List D} {s8:Shared},Inv (cxC X x scope HP.objs.size s2 H2 fp) (pins++sP fp s5.heap) (σ++[some xv]) H8 s8->Ext Hi2 H2 Hi8 H8->H8 s2.heap.objs.size=some (.lst ys')->Hi8 s2.heap.objs.size=none->IsDs X.K Hi8 ys' done'->done'.length<=i+1->
       iI t f ρ (ds.drop (i+1))=.ok rest'->es=done'++rest'->∃ m,m < ds.length - i/\∃ c:CW,m=ds.length - c.i/\CS (cxC X x scope HP.objs.size s2 H2 fp) pins σ tn fp Hi2 H2 s2.heap.objs.size 1 (fun i=>iI t f ρ (ds.drop i)) es c s8:=fun {H8 Hi8 ys' done' rest' s8} I8 E8 a1 a2 a3 a4 a5 a6=>by
      refine ⟨ds.length - (i+1),by omega,⟨i+1,[some xv],H8,Hi8,ys',done',rest'⟩,rfl,⟨I8.unpinned,rfl,T.keep _ _ _ st5 fun b hb o e=>(I8.pin (b,o) (List.mem_append_right _ (List.mem_append_right _ (eM hb e)))).1,fun b hb=>?_,E8,a1,a2,a3,a4,a5,a6⟩⟩
      obtain ⟨o,e,_⟩:=T.obj _ _ st5 b hb
      exact (I8.pin (b,o) (List.mem_append_right _ (List.mem_append_right _ (eM hb e)))).2.1
     rcases zDk hr3 with ⟨ht,hr4⟩ | ⟨ht,e,es',hf,hr4,hee⟩
     ·refine lift (thn (hts _ s6 _ H5 (fun b H'=>b=false/\∃ Hi',Ext Hi5 H5 Hi' H') I6 ⟨_,Hi5,R5,by rw [ht];exact fun Hi' H' e=>⟨rfl,Hi',e⟩⟩) fun b s7 h7=>?_)
      obtain ⟨H7,I7,rfl,Hi7,e7⟩:=h7
      obtain ⟨hD7,hiD7⟩:=e7.out hD5 hiD5
      exact again I7 (E5.trans e7) hD7 hiD7 (rd5'.mono e7.i) (by omega) hr4 hes3
     ·refine lift (thn (hts _ s6 _ H5 (fun b H'=>b=true/\∃ Hi',Ext Hi5 H5 Hi' H') I6 ⟨_,Hi5,R5,by rw [ht];exact fun Hi' H' e=>⟨rfl,Hi',e⟩⟩) fun b s7 h7=>?_)
      obtain ⟨H7,I7,rfl,Hi7,e7⟩:=h7
      obtain ⟨hD7,hiD7⟩:=e7.out hD5 hiD5
      simp only [if_true]
      refine lift (thn (hel _ s7 _ H7 (fun w H'=>∃ Hi',Ext Hi7 H7 Hi' H'/\IsD X.K Hi' w e) I7 ⟨_,Hi7,R5.grow e7,by rw [hf];exact fun Hi' H' ee w hw=>⟨Hi',ee,hw⟩⟩) fun u8 s8 h8=>?_)
      obtain ⟨w8,H8,I8,r8,Hi8,e8,rw8⟩:=h8
      obtain ⟨hD8,hiD8⟩:=e8.out hD7 hiD7
      have rdy:IsDs X.K Hi8 ys done:=(rd5'.mono e7.i).mono e8.i
      refine lift (thn (rS (X:=(cxC X x scope HP.objs.size s2 H2 fp)) _ s8 _ H8 (.ref s2.heap.objs.size) [w8] (.ref s2.heap.objs.size) [u8] (fun _ H'=>H'=upd H8 s2.heap.objs.size (.lst (ys++[w8]))) I8 rfl (.cons r8 .nil) ⟨_,ys,w8,rfl,rfl,hD8,?_,rfl⟩) fun _ s9 h9=>?_)
      ·rw [rdy.length]
       exact Nat.lt_of_le_of_lt hl3 (Nat.lt_of_lt_of_le hlt (Nat.le_trans hlen (by decide)))
      ·obtain ⟨_,H9,I9,_,rfl⟩:=h9
       refine again I9 (Ext.rewrite ((E5.trans e7).trans e8) H2D hiD8 ⟨_,hD8⟩) aZ hiD8 (rdy.snoc rw8) (by rw [List.length_append];exact Nat.succ_le_succ hl3) hr4 ?_
       rw [hes3,hee,List.append_assoc];rfl
    ·rw [List.drop_eq_nil_of_le (by omega),iI] at hr3
     cases hr3
     refine thn (T.done (cxC X x scope HP.objs.size s2 H2 fp) rfl rfl rfl hc.1 i pins s3 _ H3 _ I3 (stat fr3) st3 (w1 (by omega))) fun r s4 ⟨hrn,I4⟩=>?_
     subst hrn
     obtain ⟨m4,hn4,_⟩:=I4.loc
     have fC:H3 HP.objs.size=none:=I4.free
     have nC:∀ b u,H3 b=some u->b≠HP.objs.size:=fun b u e z=>by rw [z,fC] at e;cases e
     have U4:=I4.base
     refine hend HP.objs.size s2.heap.objs.size m4 s4 H3 hn4 (fun h' hs'=>?_) (I2.fpOk (by rw [hC];omega) fC) ?_
     ·have kp:∀ b o,b≠HP.objs.size->s4.heap.get? b=some o->h'.get? b=some o:=fun b o hb e=>hs'.extBut b o hb e
      refine Inv.call' I2 (ch:=fp) I4.os ⟨fun b o e n hb hx=>kp b o (ltC e) (U4.keep b o e n hb hx),fun b o e n hb hx=>?_,U4.free,fun b o e hx=>?_,U4.tups,U4.frzs,U4.tbls⟩ (fun b u e=>?_) I4.bare (fun b hb=>⟨(f2 b hb).2.2.2.1,(f2 b hb).2.1,(f2 b hb).2.2.2.2.1,(f2 b hb).2.2.2.2.2⟩)
      ·obtain ⟨sl,q⟩:=U4.slot b o e n hb hx
       exact ⟨sl,kp b _ (ltC e) q⟩
      ·obtain ⟨o',q⟩:=U4.there b o e hx
       exact ⟨o',kp b _ (ltC e) q⟩
      ·refine (I4.hok b u e).stay (fun c v hc q=>kp c v ?_ q) (fun _ q=>q) fun _ _ q=>q
       rcases hc with z | z
       ·rw [z];exact nC b u e
       ·exact nC c _ z
     ·refine ou2 Hi3 H3 e3 _ ⟨HD,hiD3,ys,hD3,?_⟩
      rw [hes3,List.append_nil]
      exact rd3
  rw [Ye] at dY
  exact codeAny_compStart_list (dY _ rfl) (T.self _ 0 _ _ _ tn1 (dY _ rfl))
theorem zIC (hc:X.calm=true/\TB X.K X.mg G.Bi G.B) (hr:Room k X.A) (Bk:BlkOk X x scope) (hN:X.N.Nodup) (h0:("" : Str)∉X.N) (hx0:x≠("" : Str)) (hi:PId X G (.Name x px) iter it)
  (hb:∀ (C:Addr) (s₂:Shared) (H₂:Hp) (fp:List Addr) (G':Gx),Good (cxC X x scope C s₂ H₂ fp) G' k->PTs (cxC X x scope C s₂ H₂ fp) G' ifs t/\PEd (cxC X x scope C s₂ H₂ fp) G' elt f)
  (hs:∀ x,foldedSetIterable iter X.env x=pure x:=by intro _;rfl):PEf X G (.ListComp elt [⟨.Name x px,iter,ifs,0⟩] scope pos) (mI it t f):=by
 intro pins s σ H Q I w
 obtain ⟨ρ,Hi,R,ou⟩:=w
 rw [eval_ListComp]
 refine zP hc hr Bk hN h0 hx0 hi hb hs (use:=none) (Qa:=fun a H'=>Q (.ref a) H') I R ou fun C A m s4 H3 hn hI _ q=>?_
 exact ⟨m,hn,fun h' hs'=>⟨.ref A,H3,hI h' hs',rfl,q⟩⟩
def PC (X:Cx) (e:Expr) (t:TE):Prop:=∀ (pins:List (Addr×Obj)) (s:Shared) (σ:St) (H:Hp) (Q:VK),Inv X pins σ H s->t σ H Q->∀ (u:Value->Sem Unit) (Q':Unit->Shared->Prop),
 (∀ (C:Addr) (m:Str->Option Value) (s4:Shared) (v:V) (w:Value) (H3:Hp),s4.heap.Ns C m->(∀ h',Heap.SameBut C s4.heap h'->Inv X pins σ H3 { s4 with heap:=h' })->qJ X pins H3 C->cY v w->Q v H3->
  wpAny (model X.prog X.w) X.A (u w) (fun _ s''=>∃ m,s''.heap.Ns C m/\∀ h',Heap.SameBut C s''.heap h'->Q' () { s'' with heap:=h' }) X.xe s4)->wpAny (model X.prog X.w) X.A (evalThenUse e X.env u) Q' X.xe s
theorem PC.wk {X:Cx} {e:Expr} {t t':TE} (h:PC X e t) (w:∀ σ H Q,t' σ H Q->t σ H Q):PC X e t':=fun pins s σ H Q I q=>h pins s σ H Q I (w σ H Q q)
@[irreducible] def PCd (X:Cx) (G:Gx) (e:Expr) (f:Ev):Prop:=PC X e (tD X G f)
unseal PCd
@[irreducible] def PCf (X:Cx) (G:Gx) (e:Expr) (f:Fv):Prop:=PC X e (tF X G f)
unseal PCf
theorem zJa (hc:X.calm=true/\TB X.K X.mg G.Bi G.B) (hr:Room k X.A) (Bk:BlkOk X x scope) (hN:X.N.Nodup) (h0:("" : Str)∉X.N) (hx0:x≠("" : Str)) (hi:PId X G (.Name x px) iter it)
  (hb:∀ (C:Addr) (s₂:Shared) (H₂:Hp) (fp:List Addr) (G':Gx),Good (cxC X x scope C s₂ H₂ fp) G' k->PTs (cxC X x scope C s₂ H₂ fp) G' ifs t/\PEd (cxC X x scope C s₂ H₂ fp) G' elt f)
  (hs:∀ x,foldedSetIterable iter X.env x=pure x:=by intro _;rfl):PCf X G (.ListComp elt [⟨.Name x px,iter,ifs,0⟩] scope pos) (mI it t f):=by
 intro pins s σ H Q I w u Q' hend
 obtain ⟨ρ,Hi,R,ou⟩:=w
 rw [arm_evalThenUse_ListComp]
 refine wpAny_bind (zP hc hr Bk hN h0 hx0 hi hb hs (use:=some u) (Q':=fun _ s=>wpAny (model X.prog X.w) X.A (pure ()) Q' X.xe s) (Qa:=fun a H'=>Q (.ref a) H') I R ou fun C A m s4 H3 hn hI fo q=>?_)
 refine thn (hend C m s4 (.ref A) (.ref A) H3 hn hI fo rfl q) fun _ s5 h5=>?_
 obtain ⟨m5,hn5,h5⟩:=h5
 exact ⟨m5,hn5,fun h' hs'=>wpAny_pure (h5 h' hs')⟩
theorem PCf.d (h:PCf X G e fs):PCd X G e (eF fs):=PC.wk h fun σ H Q q=>by
 obtain ⟨ρ,Hi,R,ou⟩:=q
 refine ⟨ρ,Hi,R,?_⟩
 cases z:fs ρ with
 | no=>unfold eF at ou;rw [z] at ou;exact ou
 | err c=>unfold eF at ou;rw [z] at ou;exact ou
 | ok ds=>
  unfold eF at ou;rw [z] at ou
  intro Hi1 H1 e1 a n
  obtain ⟨n1,n2,xs,n3,n4⟩:=n
  have o2:∀ Hi' H',Ext Hi H Hi' H'->∀ v,IsD X.K Hi' v (.lst ds)->Q v H':=ou
  exact o2 _ _ (e1.hold n1 n3 n2) (.ref a) (.lst (SqL.of aZ) (n4.mono (cV n2 _)))
theorem zIv {i:Nat} {y:Str} {e:Expr} {te:TE} {pos' pos:Pos} (hN:X.N.Nodup) (hi:X.N[i]?=some y) (hx:Loc X.env.scope y) (he:PC X e te) (hs:swapsWith e (some (.Name y pos')) pos.line X.env=pure true)
  (hf:X.fn y=true∨X.env.scope.names.lookup y=some .local):PS X (.Assign [.Name y pos'] e pos) (zMz te (L2.gName i)):=by
 intro pins s σ H E I h
 rw [exec_Assign_Name_used _ _ _ _ hs]
 refine wpAny_bind (wpAny_standAt (wpAny_bind ?_))
 refine he pins s σ H _ I h _ _ fun C m s4 v w H3 hn hI fo r q=>?_
 have I4:Inv X pins σ H3 s4:=hI s4.heap (Heap.SameBut.refl _ _)
 refine wpAny_assign_Name (zV I4 hN hi hx r (fun s5 I5 sb=>?_) hf)
 obtain ⟨a,sb,ha⟩:=sb
 have aC:C≠a:=by
  rcases ha with rfl | ha
  ·exact fo.2.1
  ·exact fun z=>fo.2.2.2.2.1 y a ha z.symm
 refine ⟨m,hn.sameBut sb aC,fun h' hs'=>wpAny_pure ?_⟩
 have fC:=fo.1
 have nC:∀ b u,H3 b=some u->b≠C:=fun b u e z=>by rw [z,fC] at e;cases e
 have kp:∀ b o,b≠C->s5.heap.get? b=some o->h'.get? b=some o:=fun b o hb e=>hs'.extBut b o hb e
 refine ⟨σ.set i (some v),H3,?_,q⟩
 refine Inv.call' I5 (ch:=[C]) rfl ⟨fun b o e n hb hx=>kp b o (by simpa using hx) e,fun b o e n hb hx=>⟨o.slots,kp b _ (by simpa using hx) e⟩,fun b o e n hx=>n,fun b o e hx=>⟨o,kp b _ (by simpa using hx) e⟩,fun _ _ q=>q,fun _ _ _ q=>q,fun _ ps q=>⟨#[],by simpa using q⟩⟩ (fun b u e=>?_) I5.bare (fun b hb=>?_)
 ·refine (I5.hok b u e).stay (fun c v hc q=>kp c v ?_ q) (fun _ q=>q) fun _ _ q=>q
  rcases hc with z | z
  ·rw [z];exact nC b u e
  ·exact nC c _ z
 ·have e:b=C:=by simpa using hb
  subst e
  exact ⟨fo.2.2.2.1,fo.2.1,fo.2.2.2.2.1,fo.2.2.2.2.2⟩
theorem zKz {i:Nat} {y:Str} {e:Expr} {f:Ev} {pos' pos:Pos} (hN:X.N.Nodup) (hi:X.N[i]?=some y) (hx:Loc X.env.scope y) (he:PCd X G e f) (hs:swapsWith e (some (.Name y pos')) pos.line X.env=pure true)
  (hf:X.fn y=true∨X.env.scope.names.lookup y=some .local:=by first | exact .inl rfl | exact .inr rfl | assumption):PSd X G (.Assign [.Name y pos'] e pos) (dM i f):=PS.wk (zIv hN hi hx he hs hf) fun E σ H q=>by
 obtain ⟨ρ,Hi,R,h⟩:=q
 exact ⟨ρ,Hi,R,mG R h fun d Hi' H' _ e h' v r=>h' _ Hi' H' (Same.refl _) ((R.grow e).set r)⟩
end
end L3
namespace L3
open PySem PySem.Spec PyProof.Rows L2
unseal PEd PEf PTd PWd PAd PSd eX POd PGd jL PId PSx lI PTs PCd PCf
def zMm (sc:Scope) (N:List Str) (x:Str) (scope:Scope):Bool:=
 scope.names.all (fun y=>y.2 != .cell) && scope.names.lookup x==some .local && scope.names.all (fun y=>y.2 != .local || scope.names.lookup y.1==some .local)
  && scope.names.all (fun p=>p.2 != .free || (sc.names.lookup p.1==some .cell || sc.names.lookup p.1==some .free)) && N.all (fun y=>y==x || scope.names.lookup y != some .local) && (scope.names.lookup ("" : Str)).isNone && !N.contains ("" : Str) && x != ("" : Str)
section
variable {X:Cx} {G:Gx} {elt iter:Expr} {x:Str} {px pos:Pos} {ifs:List Expr} {scope sc:Scope} {it:Fv} {t:Tv} {f:Ev} {k:Nat} {N:List Str}
theorem zIb (hk:scope.kind=.function) (hsc:X.env.scope=sc) (hN:X.N=N) (h:zMm sc N x scope=true):BlkOk X x scope/\("" : Str)∉X.N/\x≠("" : Str):=by
 unfold zMm at h
 simp only [Bool.and_eq_true] at h
 obtain ⟨⟨⟨⟨⟨⟨⟨h1,h2⟩,h3⟩,h4⟩,h5⟩,h6⟩,h7⟩,h8⟩:=h
 subst hN hsc
 refine ⟨⟨hk,fun y hy e=>?_,beq_iff_eq.mp h2,fun y hy e=>?_,fun p hp e=>?_,fun y hy hne e=>?_,?_⟩,fun z=>?_,fun z=>?_⟩
 ·have:=List.all_eq_true.mp h1 y hy
  rw [e] at this;cases this
 ·have:=List.all_eq_true.mp h3 y hy
  rw [e] at this
  simpa using this
 ·have:=List.all_eq_true.mp h4 p hp
  rw [e] at this
  have q:X.env.scope.names.lookup p.1=some .cell∨X.env.scope.names.lookup p.1=some .free:=by simpa using this
  exact q
 ·have:=List.all_eq_true.mp h5 y hy
  rw [e] at this
  simp [hne] at this
 ·simpa using h6
 ·have:X.N.contains ("" : Str)=true:=by simpa using z
  rw [this] at h7;cases h7
 ·rw [z] at h8;simp at h8
theorem iR (W:Good X G k) (hnd:N.Nodup) (hk:scope.kind=.function) (hsc:X.env.scope=sc) (hN:X.N=N) (h:zMm sc N x scope=true) (hi:PId X G (.Name x px) iter it)
  (hb:∀ (C:Addr) (s₂:Shared) (H₂:Hp) (fp:List Addr) (G':Gx),Good (cxC X x scope C s₂ H₂ fp) G' k->PTs (cxC X x scope C s₂ H₂ fp) G' ifs t/\PEd (cxC X x scope C s₂ H₂ fp) G' elt f)
  (hs:∀ x,foldedSetIterable iter X.env x=pure x:=by intro _;rfl):PEf X G (.ListComp elt [⟨.Name x px,iter,ifs,0⟩] scope pos) (mI it t f):=by
 obtain ⟨b,h0,hx⟩:=zIb hk hsc hN h
 exact zIC ⟨W.calm,W.tb⟩ W.room b (hN ▸ hnd) h0 hx hi hb hs
theorem zHj (W:Good X G k) (hnd:N.Nodup) (hk:scope.kind=.function) (hsc:X.env.scope=sc) (hN:X.N=N) (h:zMm sc N x scope=true) (hi:PId X G (.Name x px) iter it)
  (hb:∀ (C:Addr) (s₂:Shared) (H₂:Hp) (fp:List Addr) (G':Gx),Good (cxC X x scope C s₂ H₂ fp) G' k->PTs (cxC X x scope C s₂ H₂ fp) G' ifs t/\PEd (cxC X x scope C s₂ H₂ fp) G' elt f)
  (hs:∀ x,foldedSetIterable iter X.env x=pure x:=by intro _;rfl):PCf X G (.ListComp elt [⟨.Name x px,iter,ifs,0⟩] scope pos) (mI it t f):=by
 obtain ⟨b,h0,hx⟩:=zIb hk hsc hN h
 exact zJa ⟨W.calm,W.tb⟩ W.room b (hN ▸ hnd) h0 hx hi hb hs
end
end L3
namespace L3
open PySem PySem.Spec PyProof.Rows L2
unseal PEd PEf PTd PWd PAd PSd eX POd PGd jL PId PSx lI PTs PCd PCf
section
variable {X:Cx} {G:Gx} {a b:Expr} {pos:Pos} {f:Fv} {g:Ev}
theorem IsDs.rep {K:PySem.W.Frag} {H:Hp} {xs:List V} {ds:List D} (h:IsDs K H xs ds):∀ n:Nat,IsDs K H (List.replicate n xs).flatten (List.replicate n ds).flatten
 | 0=>.nil
 | n+1=>by
  rw [List.replicate_succ,List.replicate_succ,List.flatten_cons,List.flatten_cons]
  exact h.append (IsDs.rep h n)
theorem zCo (ha:PEf X G a f) (hb:PEd X G b g):PEf X G (.BinOp a .Mult b pos) (zIH f g):=PE.wk (zEn zLA ha hb) fun σ H Q q=>by
 obtain ⟨ρ,Hi,R,ou⟩:=q
 refine ⟨ρ,Hi,R,(Out.bind ou).imp fun ds Hi1 H1 e1 o1 l nl=>?_⟩
 refine ⟨ρ,Hi1,R.grow e1,(Out.bind o1).imp fun d Hi2 H2 e2 o2 v rv=>?_⟩
 cases d<;>first | exact o2.elim | skip
 rename_i k
 obtain ⟨n1,n2,xs,n3,n4⟩:=nl
 have o2':Out G Hi2 H2 (if 0<=k/\k < 2^62/\ds.length * k.toNat<=16777216 then Res.ok (List.replicate k.toNat ds).flatten else .no) _:=o2
 by_cases hz:0<=k/\k < 2^62/\ds.length * k.toNat<=16777216
 ·rw [if_pos hz] at o2'
  refine ⟨l,k,xs,rfl,rv.intI,e2.h.at n3,by omega,by omega,by rw [n4.length];exact hz.2.2,fun p hp=>?_⟩
  exact o2' _ _ (Ext.newF e2.s hp) p ⟨(e1.h.trans e2.h).none hp,e2.s.none hp,_,aZ,(n4.mono e2.i).rep _⟩
 ·rw [if_neg hz] at o2';exact o2'.elim
end
section
variable {es r:List Expr} {a b f:Expr} {k:Nat} {p:Pos} {x:Str} {c:Const} {env:Env}
theorem zGe:starEach (.Tuple es k p::r) env=(false,eval (.Tuple es k p) env)::starEach r env:=rfl
theorem zGk:starEach (.List es p::r) env=(false,eval (.List es p) env)::starEach r env:=rfl
theorem aX {o:Operator}:starEach (.BinOp a o b p::r) env=(false,eval (.BinOp a o b p) env)::starEach r env:=rfl
theorem aR:starEach (.Subscript a b p::r) env=(false,eval (.Subscript a b p) env)::starEach r env:=rfl
theorem aD:starEach (.Name x p::r) env=(false,eval (.Name x p) env)::starEach r env:=rfl
theorem bA:starEach (.Constant c k p::r) env=(false,eval (.Constant c k p) env)::starEach r env:=rfl
theorem aO {ks:List Keyword}:starEach (.Call f es ks p::r) env=(false,eval (.Call f es ks p) env)::starEach r env:=rfl
end
end L3
namespace L3
open PySem PySem.Spec PyProof.Rows L2
unseal PEd PEf PTd PWd PAd PSd eX POd PGd jL PId PSx lI PTs PCd PCf
section
variable {X:Cx} {G:Gx} {e st:Expr} {te tk:TE} {lo hi:Option Expr} {tl th:TO} {pos p2:Pos} {f g:Ev} {l h:Ov}
end
end L3
set_option maxRecDepth 100000
namespace L3
open PySem PySem.Spec PyProof.Rows L2
theorem eP:Slot "reversed" "__next__" "reversed.__next__" :=
 .of (owner := "reversed") (n := "__next__") (by rw [typeLookup_type,builtinLookup_eq_fast];kernel_rfl) (by decide +kernel) (by decide +kernel) (by decide +kernel) (by first | exact .inl (by decide +kernel) | exact .inr (by decide +kernel)) (by rw [isSubtype_type];kernel_rfl)
theorem nJ:Slot "reversed" "__iter__" "reversed.__iter__" :=
 .of (owner := "reversed") (n := "__iter__") (by rw [typeLookup_type,builtinLookup_eq_fast];kernel_rfl) (by decide +kernel) (by decide +kernel) (by decide +kernel) (by first | exact .inl (by decide +kernel) | exact .inr (by decide +kernel)) (by rw [isSubtype_type];kernel_rfl)
theorem vO:Slot "reversed" "__init__" "object.__init__" :=
 .of (owner := "object") (n := "__init__") (by rw [typeLookup_type,builtinLookup_eq_fast];kernel_rfl) (by decide +kernel) (by decide +kernel) (by decide +kernel) (by first | exact .inl (by decide +kernel) | exact .inr (by decide +kernel)) (by rw [isSubtype_type];kernel_rfl)
theorem lT:entryFor table "reversed.__next__" = some Builtin.«reversed.__next__» := entryFor_of_tree (by kernel_rfl)
theorem tJ:entryFor table "reversed.__iter__" = some Builtin.«dict_keyiterator.__iter__» :=
 entryFor_alias (id' := "dict_keyiterator.__iter__") (by kernel_rfl) (by first | rfl | decide +kernel | (unfold String.splitOn;simp +decide [String.splitOnAux])) (by decide +kernel) (by kernel_rfl)
theorem yO:Manifest.owners.lookup (String.ofList ['d', 'e', 's', 'r', 'e', 'v', 'e', 'r'].reverse)=some Manifest.sig_reversed:=by kernel_rfl
theorem nH (a:Value):argsOk "reversed.__next__" ⟨[a],[]⟩:=by
 unfold argsOk;rw [signature?_of (id := "reversed.__next__") (n:=['_', '_', 't', 'x', 'e', 'n', '_', '_']) (o:=['d', 'e', 's', 'r', 'e', 'v', 'e', 'r']) (by kernel_rfl) yO];kernel_rfl
theorem wN (a:Value):argsOk "reversed.__iter__" ⟨[a],[]⟩:=by
 unfold argsOk;rw [signature?_of (id := "reversed.__iter__") (n:=['_', '_', 'r', 'e', 't', 'i', '_', '_']) (o:=['d', 'e', 's', 'r', 'e', 'v', 'e', 'r']) (by kernel_rfl) yO];kernel_rfl
theorem zCW:TypeCalled "reversed" "reversed.__new__" "object.__init__" :=
 ⟨by decide +kernel,F.create_reversed,⟨_,_,F.mro_reversed⟩,F.made_reversed,F.plain_reversed_new,F.sub_reversed_self,vO⟩
theorem oX:typeLookup (.type "tuple") "__reversed__" = pure none:=by rw [typeLookup_type,builtinLookup_eq_fast];kernel_rfl
theorem wD:isSubtype (.type "tuple") (.type "dict")=pure false:=by rw [isSubtype_type];kernel_rfl
def uC (h:Heap) (a t:Addr) (i:Int):Prop:=∃ o,h.get? a=some o/\o.cls=.type "reversed" /\ o.data=.fields #[.ref t,rawInt i]
theorem uC.typeIs {s:Shared} {a t:Addr} {i:Int} (x:uC s.heap a t i):s.TypeIs (.ref a) "reversed" := let ⟨o,ho,hc,_⟩:=x;⟨o,ho,hc⟩
section
variable {prog:Program} {w:World} {A:Around} {E:Value->Shared->Prop} {s:Shared}
theorem wI (t:Addr) (items:Array Value) (hfit:(items.size:Int) < 2^63):Meets (Builtin.«reversed.__new__» ⟨[.type "reversed", .ref t],[]⟩)
  (fun _ R s=>IsTup s.heap t items/\R (.ok (.ret (.ref s.heap.objs.size))) { s with heap:=s.heap.push { cls:=.type "reversed", data:=.fields #[.ref t,rawInt ((items.size:Int) - 1)] },toks:=s.toks+1+1 }):=
 .of_wp fun prog w A R s h=>by
 obtain ⟨ht,h⟩:=h
 unfold Builtin.«reversed.__new__»
 refine wpAny_bind (wpAny_of_eq (newClass_reversed _) ?_)
 try dsimp only
 refine wpAny_bind (wpAny_of_eq (a:=()) (by first | rfl | kernel_rfl) ?_)
 refine wpAny_bind (wpAny_of_eq (a:=()) (by first | rfl | kernel_rfl) ?_)
 try dsimp only
 refine wpAny_bind (wpAny_specialOf ht.typeIs oX ?_)
 try dsimp only
 refine wpAny_bind ?_
 show wpAny _ _ (isInstance (.ref t) (.type "dict") >>= _) _ _ s
 refine wpAny_bind (wpAny_isInstance ht.typeIs wD ?_)
 show wpAny _ _ (specialOf (.ref t) (Str.ofString "__getitem__") >>= _) _ _ s
 refine wpAny_bind (wpAny_specialOf ht.typeIs PyProof.Rows.slot_tuple_getitem.lookup ?_)
 refine wpAny_pure ?_
 show wpAny _ _ (call (.builtin "len") [.ref t] >>= _) _ _ s
 refine wpAny_bind (PyProof.Rows.len_tuple ht hfit ?_)
 refine wpAny_bind (wpAny_of_eq (a:=some (items.size:Int)) rfl ?_)
 show wpAny _ _ (newObj (.type "reversed") (.fields #[.ref t,rawInt ((items.size:Int) - 1)]) >>= _) _ _ _
 exact wpAny_bind (wpAny_newObj_type (wpAny_pure ⟨_,rfl,h⟩))
theorem zGQ {t:Addr} {items:Array Value} {Q:Value->Shared->Prop} (ht:IsTup s.heap t items) (hfit:(items.size:Int) < 2^63)
  (h:Q (.ref s.heap.objs.size) { s with heap:=s.heap.push { cls:=.type "reversed", data:=.fields #[.ref t,rawInt ((items.size:Int) - 1)] },toks:=s.toks+1+1 }):
  wpAny (model prog w) A (call (.type "reversed") [.ref t]) Q E s:=
 callType_new zCW (by decide) (F.typeCall_reversed_1 _) (F.newCall_reversed_1 _) (fun obj=>F.args_object_init_2 obj _) F.entry_reversed_new (wI t items hfit) ⟨ht,⟨_,Heap.get?_push_size _ rfl,rfl⟩,h⟩
theorem zBO {a t:Addr} {i:Int} {Q:Value->Shared->Prop} (x:uC s.heap a t i) (h:Q (.ref a) s):wpAny (model prog w) A (pyIter (.ref a)) Q E s:=by
 refine wpAny_pyIter_slot x.typeIs nJ (wpAny_call_entry nJ x.typeIs tJ ?_ (wN _))
 show wpAny _ _ (ret (.ref a)) _ _ s
 exact wpAny_pure ⟨_,rfl, "reversed", _,x.typeIs,eP.lookup,h⟩
theorem zGX {a t:Addr} {i:Nat} {items:Array Value} {x:Value} {Q:Option Value->Shared->Prop} (hit:uC s.heap a t (i:Int)) (ht:IsTup s.heap t items) (hb:(i:Int) < 2^63) (hx:items[i]?=some x)
  (hQ:∀ h' tk,uC h' a t ((i:Int) - 1)->Heap.SameBut a s.heap h'->Q (some x) { s with heap:=h',toks:=tk }):wpAny (model prog w) A (pyNext (.ref a)) Q E s:=by
 obtain ⟨o,ho,hc,hd⟩:=id hit
 unfold pyNext
 refine wpAny_bind (wpAny_attempt (wpAny_callSpecial?_slot (name:=Str.ofString "__next__") hit.typeIs eP (wpAny_call_entry eP hit.typeIs lT ?_ (nH _))))
 unfold Builtin.«reversed.__next__»
 refine wpAny_bind (wpAny_of_eq (a:=(Value.ref a,[])) rfl ?_)
 try dsimp only
 refine wpAny_bind (wpAny_field ho hd (x:=.ref t) rfl ?_)
 refine wpAny_bind (wpAny_field ho hd (x:=rawInt (i:Int)) rfl ?_)
 show wpAny _ _ (if (i:Int) < 0 then _ else _) _ _ s
 rw [if_neg (by omega)]
 show wpAny _ _ (specialOf (.ref t) (Str.ofString "__getitem__") >>= _) _ _ s
 refine wpAny_bind (wpAny_specialOf ht.typeIs PyProof.Rows.slot_tuple_getitem.lookup ?_)
 rw [if_neg (by simp)]
 refine wpAny_bind (wpAny_mkInt ?_)
 refine wpAny_bind (wpAny_attempt (PyProof.Rows.getItem_tuple (items:=items) (j:=i) (x:=x) ht (by omega) hb ?_ hx ?_))
 ·have:=(Array.getElem?_eq_some_iff.mp hx).1
  unfold seqIndex?
  simp
  omega
 try dsimp only
 refine wpAny_bind (wpAny_field ho hd (x:=rawInt (i:Int)) rfl ?_)
 show wpAny _ _ (setField (.ref a) 1 (rawInt ((i:Int) - 1)) >>= _) _ _ _
 refine wpAny_bind (wpAny_setField ho hd (by simp) ?_)
 refine wpAny_pure ⟨x,rfl,wpAny_pure (hQ _ _ ?_ (Heap.SameBut.update ..))⟩
 exact ⟨_,Heap.get?_update_self _ ho (Obj.isFreed_of_fields (Obj.data_mapFields hd _)),(Obj.cls_mapFields ..).trans hc,by
  rw [Obj.data_mapFields hd];simp⟩
theorem zR {a t:Addr} {j:Int} {Q:Option Value->Shared->Prop} (hh:A.handled=none) (hit:uC s.heap a t j) (hj:j < 0)
  (hQ:∀ h',Heap.ExtBut a s.heap h'->Q none { s with heap:=h' }):wpAny (model prog w) A (pyNext (.ref a)) Q E s:=by
 obtain ⟨o,ho,hc,hd⟩:=id hit
 unfold pyNext
 refine wpAny_bind (wpAny_attempt (wpAny_callSpecial?_slot (name:=Str.ofString "__next__") hit.typeIs eP (wpAny_call_entry eP hit.typeIs lT ?_ (nH _))))
 unfold Builtin.«reversed.__next__»
 refine wpAny_bind (wpAny_of_eq (a:=(Value.ref a,[])) rfl ?_)
 try dsimp only
 refine wpAny_bind (wpAny_field ho hd (x:=.ref t) rfl ?_)
 refine wpAny_bind (wpAny_field ho hd (x:=rawInt j) rfl ?_)
 show wpAny _ _ (if j < 0 then _ else _) _ _ s
 rw [if_pos hj]
 refine wpAny_bind (wpAny_rule ?_)
 refine wpAny_bind ?_
 show wpAny _ _ (setField (.ref a) 1 (rawInt (-1)) >>= _) _ _ _
 refine wpAny_bind (wpAny_setField ho hd (by simp) ?_)
 have ho2:=Heap.get?_update_self (Obj.mapFields fun x=>x.setIfInBounds 1 (rawInt (-1))) ho (Obj.isFreed_of_fields (Obj.data_mapFields hd _))
 have hd2:=Obj.data_mapFields hd (fun x=>x.setIfInBounds 1 (rawInt (-1)))
 refine wpAny_setField ho2 hd2 (by simp) ?_
 refine wpAny_bind ?_
 show wpAny _ _ (newExc (.type "StopIteration") [] >>= _) _ _ _
 refine wpAny_bind ?_
 simp only [newExc,newTuple]
 refine wpAny_bind (wpAny_newObj_type ?_ (by size_fits))
 refine wpAny_bind (m:=firstArgMember _ _) (wpAny_of_eq (a:=Value.none) (by first | rfl | (simp only [firstArgMember];rfl)) ?_)
 refine wpAny_newObj_type ?_ (by size_fits)
 simp only [raiseNew]
 refine wpAny_bind (wpAny_handled ?_)
 first | rw [show A.in1.handled=none from hh] | rw [hh]
 refine wpAny_bind (wpAny_pure (wpAny_throw ?_))
 refine wpAny_bind (wpAny_isInstance (T := "StopIteration") (b:=true) ⟨_,Heap.get?_push_size _ rfl,rfl⟩ isSubtype_stop ?_)
 refine wpAny_pure (hQ _ fun b ob hb e=>Heap.get?_push_of_some _ (Heap.get?_push_of_some _ ?_))
 exact (Heap.SameBut.update ..).extBut b ob hb ((Heap.SameBut.update ..).extBut b ob hb e)
end
def Itv (K:PySem.W.Frag) (a:Addr) (n:Nat):It:=
 ⟨fun i H=>∃ xs x,SqT K H a xs/\xs.length=n/\xs.reverse[i]?=some x,fun i H x H'=>H'=H/\∀ xs,SqT K H a xs->xs.reverse[i]?=some x,fun i H=>∃ xs,SqT K H a xs/\n<=i⟩
theorem zGW {P:Program} {w:World} {K:PySem.W.Frag} {tg:Expr} (a it:Addr) (n:Nat) (hn:n<=sizeLine):Turn P w K tg (Itv K a n) [it] it (fun i h=>uC h it a ((n:Int) - 1 - (i:Int))) where
 mem:=by simp
 obj:=fun i h st b hb=>by
  have e:b=it:=by simpa using hb
  subst e
  obtain ⟨o,e,c,d⟩:=st
  exact ⟨o,e,fun v z=>by rw [d] at z;cases z⟩
 keep:=fun i h h' st k=>by
  obtain ⟨o,e,c,d⟩:=st
  exact ⟨o,k it (by simp) o e,c,d⟩
 item:=by
  intro X hP hw hK hc i pins s σ H E I hf st hg
  subst hP hw hK
  obtain ⟨xs,x,hq,hn',hx⟩:=hg
  obtain ⟨its,rv,p,hz⟩:=I.tuple hq
  have hi:i < xs.length:=by
   have:=(List.getElem?_eq_some_iff.mp hx).1
   rwa [List.length_reverse] at this
  have hx':xs[n - 1 - i]?=some x:=by
   rw [List.getElem?_reverse hi,hn'] at hx
   exact hx
  obtain ⟨u,hu,ru⟩:=rv.get hx'
  obtain ⟨f0,f1,f2,f3,f4,f5⟩:=hf it (by simp)
  have st0:uC s.heap it a ((n - 1 - i:Nat):Int):=by rw [show ((n - 1 - i:Nat):Int)=(n:Int) - 1 - (i:Int) by omega];exact st
  have hb:((n - 1 - i:Nat):Int) < 2^63:=by
   have:sizeLine < 2^63:=by decide
   omega
  refine zGX (items:=its.toArray) st0 p hb (x:=u) (by simpa using hu) fun h' tk st' sb=>?_
  have I1:Inv X pins σ H { s with heap:=h',toks:=tk }:=I.turned (t':=tk) (fun b o hb e=>(sb.2 b hb).trans e) f0 f1 f3 f4 f5
  obtain ⟨o,e,c,d⟩:=id st'
  have st2:uC h' it a ((n:Int) - 1 - ((i+1:Nat):Int)):=by rw [show (n:Int) - 1 - ((i+1:Nat):Int)=((n - 1 - i:Nat):Int) - 1 by omega];exact st'
  exact ⟨u,rfl,zDH (s:={ s with heap:=h',toks:=tk }) e c d (by decide) ⟨x,H,I1,ru,⟨rfl,fun ys hy=>by rw [I.tuple_inj hy hq];exact hx⟩,st2,fun b hb=>(hf b hb).1⟩⟩
 done:=by
  intro X hP hw hK hc i pins s σ H E I hf st hg
  subst hP hw hK
  obtain ⟨xs,hq,hx⟩:=hg
  obtain ⟨f0,f1,f2,f3,f4,f5⟩:=hf it (by simp)
  exact zR (I.ok.hd hc) st (by omega) fun h' eb=>⟨rfl,I.turned (t':=s.toks) (fun b o hb e=>eb b o hb e) f0 f1 f3 f4 f5⟩
 self:=fun _ _ _ _ _ st h=>zBO st h
theorem zCj:bootBuiltins "reversed" = some (.type "reversed"):=by first | rfl | decide +kernel
section
unseal PEd PEf PTd PWd PAd PSd eX POd PGd jL PId PSx lI PTs PCd PCf
variable {X:Cx} {G:Gx} {fs:Fv} {f:Ev}
def iRv (K:PySem.W.Frag) (ta:TA):TI:=fun σ H R=>ta σ H fun vs H1=>∃ a xs,vs=[.ref a]/\SqT K H1 a xs/\R (Itv K a xs.length) H1
theorem zLn {tg a:Expr} {ta:TA} {p pos:Pos} (hg:Gl X "reversed") (hm:X.mg "reversed" = none) (ha:PA X [a] ta) (hs:starEach [a] X.env=[(false,eval a X.env)]:=by rfl):PI X tg (.Call (.Name "reversed" p) [a] [] pos) (iRv X.K ta):=by
 intro pins s σ H R I h
 refine Call_ (lQ I hg hm zCj (PyProof.Rows.callWith_type1 (thn (ha pos pins s σ H _ I h) fun us s1 ⟨vs,H1,I1,r1,q1⟩=>?_) hs rfl))
 obtain ⟨t,xs,rfl,hq,q⟩:=q1
 cases r1 with
 | cons r rr=>
  cases rr
  cases r
  obtain ⟨its,rv,pt,hz⟩:=I1.tuple hq
  have hl:=rv.length
  have big:sizeLine < 2^63:=by decide
  refine zGQ (items:=its.toArray) pt (by rw [List.size_toArray];omega) ?_
  have hR:uC (s1.heap.push { cls:=.type "reversed", data:=.fields #[.ref t,rawInt ((its.toArray.size:Int) - 1)] }) s1.heap.objs.size t ((xs.length:Int) - 1 - ((0:Nat):Int)):=
   ⟨_,Heap.get?_push_size _ rfl,rfl,by rw [hl,List.size_toArray];simp⟩
  refine zBO (s:={ s1 with heap:=_,toks:=_ }) hR ?_
  refine ⟨s1.heap.objs.size,[s1.heap.objs.size],_,_,H1,rfl,I1.kept (t':=s1.toks+1+1) fun b o e=>Heap.get?_push_of_some _ e,zGW t _ xs.length hz,hR,fun b hb=>?_,q⟩
  have e:b=s1.heap.objs.size:=by simpa using hb
  subst e
  exact I1.fpOk (Nat.le_refl _) (I1.hok.fresh (Nat.le_refl _))
theorem zEi {K:PySem.W.Frag} {Hi:Hp} {a:Addr} {xs:List V} {ds:List D} (h1:SqT K Hi a xs) (h2:IsDs K Hi xs ds):rZ K Hi (Itv K a xs.length) ds.reverse:=fun Hi1 H1 s1 s2 i=>by
 have h3:=bY (s1.trans s2) h1
 have hl:=h2.length
 refine ⟨fun hl'=>⟨xs,h3,by rw [List.length_reverse] at hl';omega⟩,fun d hd=>?_⟩
 have hi:i < ds.length:=by
  have:=(List.getElem?_eq_some_iff.mp hd).1
  rwa [List.length_reverse] at this
 rw [List.getElem?_reverse hi] at hd
 obtain ⟨v,hv,r⟩:=h2.at hd
 have hv':xs.reverse[i]?=some v:=by rw [List.getElem?_reverse (by omega),hl];exact hv
 refine ⟨⟨xs,v,h3,rfl,hv'⟩,fun x H2 y=>?_⟩
 obtain ⟨e,y⟩:=y
 subst e
 have:=y xs h3
 rw [hv'] at this
 cases this
 exact ⟨Hi1,Ext.refl s2,r.mono s1⟩
theorem zNa {tg a:Expr} {p pos:Pos} (hg:Gl X "reversed") (hm:X.mg "reversed" = none) (ha:PEd X G a f) (hst:starEach [a] X.env=[(false,eval a X.env)]:=by rfl):PId X G tg (.Call (.Name "reversed" p) [a] [] pos) (zMl f):=PI.wk (zLn hg hm (jN ha pX (by rw [hst];rfl)) hst) fun σ H Q q=>by
 obtain ⟨ρ,Hi,R,ou⟩:=q
 refine zCy R ou fun v d Hi1 H1 e1 R1 r1 o1=>?_
 cases d with
 | tup ds=>
  obtain ⟨a,xs,rfl,h1,h2⟩:=r1.tupI
  exact ⟨a,xs,rfl,bY R1.s h1,o1.here R1.s _ (zEi h1 h2)⟩
 | _=>exact o1.elim
end
end L3
namespace L3
open PySem PySem.Spec PyProof.Rows L2
unseal PEd PEf PTd PWd PAd PSd eX POd PGd jL PId PSx lI PTs PCd PCf
section
variable {X:Cx} {G:Gx}
def zNs (K:PySem.W.Frag):List V->Hp->VK->Prop:=fun xs H Q=>∃ (a:Addr) (ns:List Int),xs=[.ref a]/\(SqL K H a (ns.map V.int)∨SqT K H a (ns.map V.int))/\Q (.int ns.sum) H
theorem rF (ns:List Int):∀ j,preSum (fun i=>ns.getD i 0) j=(ns.take j).sum
 | 0=>by rw [List.take_zero];rfl
 | j+1=>by
  rw [preSum,rF ns j,List.take_succ]
  rw [List.getD_eq_getElem?_getD]
  cases ns[j]? with
  | none=>simp
  | some x=>simp
theorem zEN {ns:List Int} {its:List Value} (r:dG (ns.map V.int) its) {i:Nat} {v:Value} (h:its[i]?=some v):∃ t,v=.int (ns.getD i 0) t:=by
 have hl:=r.length
 rw [List.length_map] at hl
 have hi:=(List.getElem?_eq_some_iff.mp h).1
 have hx:(ns.map V.int)[i]?=some (.int (ns.getD i 0)):=by
  rw [List.getElem?_map,List.getD_eq_getElem?_getD,List.getElem?_eq_getElem (by omega)]
  rfl
 obtain ⟨u,hu,ru⟩:=r.get hx
 rw [h] at hu
 cases hu
 exact ru
theorem lE (hc:X.calm=true):uJ X (.builtin "sum") (zNs X.K):=by
 intro pins s σ H xs us Q I r h
 obtain ⟨a,ns,rfl,hq,q⟩:=h
 obtain ⟨u,rfl,ru⟩:=r.one
 cases ru
 have hh:=I.ok.hd hc
 rcases hq with hq | hq
 ·obtain ⟨its,rv,p,hz⟩:=I.list hq
  have hlt:a < s.heap.objs.size:=by obtain ⟨_,e,_⟩:=p.isList;exact Heap.lt_size e
  have hl:=rv.length
  rw [List.length_map] at hl
  refine call_sum_walkG (wpAny_pyIter_list p.isList ?_)
  refine ⟨s.heap.objs.size,_,_,_,_,_,fun i=>ns.getD i 0,rfl,Walks.list (A:=X.A.in1) hh s.heap.objs.size a (Nat.ne_of_lt hlt) its.toArray,⟨⟨_,Heap.get?_push_size _ rfl,rfl,rfl⟩,p.isList.push _⟩,fun b hb=>?_,fun i v hv=>zEN rv (by simpa using hv),fun h' tk t' hk=>?_⟩
  ·show b < (s.heap.push _).objs.size
   rw [Heap.size_push]
   rcases List.mem_cons.mp hb with rfl | hb
   ·exact Nat.lt_succ_self _
   ·rcases List.mem_cons.mp hb with rfl | hb
    ·exact Nat.lt_succ_of_lt hlt
    ·cases hb
  ·refine ⟨.int ns.sum,H,I.kept (t':=tk) fun b o e=>hk b o (fun z=>?_) (Heap.get?_push_of_some _ e),⟨t',?_⟩,q⟩
   ·have z':b=s.heap.objs.size:=by simpa using z
    have l:=Heap.lt_size e
    rw [z'] at l
    exact Nat.lt_irrefl _ l
   ·rw [List.size_toArray,<-hl,rF,List.take_length]
 ·obtain ⟨its,rv,p,hz⟩:=I.tuple hq
  have p':s.heap.IsTuple a its.toArray:=p
  have hlt:a < s.heap.objs.size:=by obtain ⟨_,e,_⟩:=p';exact Heap.lt_size e
  have hl:=rv.length
  rw [List.length_map] at hl
  refine call_sum_walkG (wpAny_pyIter_tuple p' ?_)
  refine ⟨s.heap.objs.size,_,_,_,_,_,fun i=>ns.getD i 0,rfl,Walks.tuple (A:=X.A.in1) hh s.heap.objs.size a (Nat.ne_of_lt hlt) its.toArray,⟨⟨_,Heap.get?_push_size _ rfl,rfl,rfl⟩,p'.push _⟩,fun b hb=>?_,fun i v hv=>zEN rv (by simpa using hv),fun h' tk t' hk=>?_⟩
  ·show b < (s.heap.push _).objs.size
   rw [Heap.size_push]
   rcases List.mem_cons.mp hb with rfl | hb
   ·exact Nat.lt_succ_self _
   ·rcases List.mem_cons.mp hb with rfl | hb
    ·exact Nat.lt_succ_of_lt hlt
    ·cases hb
  ·refine ⟨.int ns.sum,H,I.kept (t':=tk) fun b o e=>hk b o (fun z=>?_) (Heap.get?_push_of_some _ e),⟨t',?_⟩,q⟩
   ·have z':b=s.heap.objs.size:=by simpa using z
    have l:=Heap.lt_size e
    rw [z'] at l
    exact Nat.lt_irrefl _ l
   ·rw [List.size_toArray,<-hl,rF,List.take_length]
theorem pD {K:PySem.W.Frag} {H:Hp}:∀ {xs:List V} {ds:List D} {ns:List Int},IsDs K H xs ds->qG ds=some ns->xs=ns.map V.int
 | _,_,ns,.nil,h=>by cases h;rfl
 | _,_,ns,.cons (d:=d) (ds:=ds) r rs,h=>by
  cases d with
  | int i=>
   rw [qG] at h
   cases z:qG ds with
   | none=>rw [z] at h;cases h
   | some ms=>
    rw [z] at h
    cases h
    rw [r.intI,pD rs z]
    rfl
  | _=>cases h
theorem uU:zAI X (zNs X.K) zBj:=⟨fun a c z=>(by
  unfold zBj at z
  split at z
  ·split at z<;>cases z
  ·split at z<;>cases z
  ·cases z),fun Hi H vs ds d Q s r z q=>by
  unfold zBj at z
  split at z
  ·split at z
   ·rename_i ns hns
    cases z
    obtain ⟨v,rfl,h⟩:=r.one
    obtain ⟨a,xs,rfl,h1,h2⟩:=h.lstI
    have e:=pD h2 hns
    subst e
    exact ⟨a,ns,rfl,.inl (cQ s h1),q _ Hi H (Ext.refl s) (.int _)⟩
   ·cases z
  ·split at z
   ·rename_i ns hns
    cases z
    obtain ⟨v,rfl,h⟩:=r.one
    obtain ⟨a,xs,rfl,h1,h2⟩:=h.tupI
    have e:=pD h2 hns
    subst e
    exact ⟨a,ns,rfl,.inr (bY s h1),q _ Hi H (Ext.refl s) (.int _)⟩
   ·cases z
  ·cases z⟩
theorem jC:bootBuiltins "sum" = some (.builtin "sum"):=by first | rfl | decide +kernel
end
end L3
namespace L3
open PySem PySem.Spec PyProof.Rows L2
unseal PEd PEf PTd PWd PAd PSd eX POd PGd jL PId PSx lI PTs PCd PCf
section
variable {prog:Program} {w:World} {A:Around} {E:Value->Shared->Prop} {s:Shared}
end
section
variable {X:Cx} {G:Gx} {es:List Expr} {pos:Pos}
end
theorem ln0 {α:Type} {us:List α} (h:us.length=0):us=[]:=List.eq_nil_of_length_eq_zero h
theorem ln1 {α:Type} {us:List α} (h:us.length=1):∃ a0:α,us=[a0]:=by
 cases us with
 | nil=>cases h
 | cons a r=>
  cases ln0 (Nat.succ.inj h)
  exact ⟨a,rfl⟩
theorem ln2 {α:Type} {us:List α} (h:us.length=2):∃ a0 a1:α,us=[a0,a1]:=by
 cases us with
 | nil=>cases h
 | cons a r=>
  obtain ⟨a1,rfl⟩:=ln1 (Nat.succ.inj h)
  exact ⟨a,a1,rfl⟩
theorem ln3 {α:Type} {us:List α} (h:us.length=3):∃ a0 a1 a2:α,us=[a0,a1,a2]:=by
 cases us with
 | nil=>cases h
 | cons a r=>
  obtain ⟨a1,a2,rfl⟩:=ln2 (Nat.succ.inj h)
  exact ⟨a,a1,a2,rfl⟩
theorem ln4 {α:Type} {us:List α} (h:us.length=4):∃ a0 a1 a2 a3:α,us=[a0,a1,a2,a3]:=by
 cases us with
 | nil=>cases h
 | cons a r=>
  obtain ⟨a1,a2,a3,rfl⟩:=ln3 (Nat.succ.inj h)
  exact ⟨a,a1,a2,a3,rfl⟩
end L3
namespace L3
open PySem PySem.Spec PyProof.Rows L2
unseal PEd PEf PTd PWd PAd PSd eX POd PGd jL PId PSx lI PTs PCd PCf
section
variable {X:Cx} {G:Gx} {a b c e:Expr} {pos p2:Pos} {f g h:Ev} {fs:Fv} {lo hi:Option Expr} {l u:Ov}
end
end L3
namespace L3
open PySem PySem.Spec PyProof.Rows L2
unseal PEd PEf PTd PWd PAd PSd eX POd PGd jL PId PSx lI PTs PCd PCf
section
variable {X:Cx} {G:Gx} {a b c e:Expr} {pos p2 p:Pos} {f g h:Ev} {fs:Fv} {x:Str}
theorem zKI {bl:List Stmt}:eX X G bl sNo:=fun pins s σ H E I q=>by
 obtain ⟨ρ,Hi,R,ou⟩:=q
 exact ou.elim
def zGy (T:List (Str×Str)):List (Str×KTD.Dat):=T.map fun q=>(q.1,.flat (.str q.2))
structure IsTab (K:PySem.W.Frag) (mg:Str->Option Value) (x:Str) (T:List (Str×Str)) (a:Addr):Prop where
 mg:mg x=some (.ref a)
 tab:∀ h:Heap,K.In h->KTD.TextTab h a (zGy T)
theorem zEq (k:Str):∀ T:List (Str×Str),KTD.datumAt k (zGy T)=(T.lookup k).map fun y=>.flat (.str y)
 | []=>rfl
 | (x,y)::r=>by
  show (if decide (k=x)=true then some (KTD.Dat.flat (.str y)) else KTD.datumAt k (zGy r))=_
  rw [List.lookup_cons]
  by_cases hx:k=x
  ·rw [if_pos (decide_eq_true hx),show (k==x)=true from beq_iff_eq.mpr hx];rfl
  ·rw [if_neg (by simp [hx]),show (k==x)=false from beq_eq_false_iff_ne.mpr hx];exact zEq k r
theorem zFz (k:Str) (T:List (Str×Str)):KTD.inKeys k (zGy T)=(T.lookup k).isSome:=by
 rw [<-KTD.isSome_datumAt,zEq,Option.isSome_map]
theorem zHU {T:List (Str×Str)} {ad:Addr} (t:IsTab X.K X.mg x T ad) (hg:Gl X x) (hd:(x==("__debug__" : Str))=false:=by decide):PE X (.Name x p) (tC (.ref ad)):=zBh hg t.mg rfl hd
theorem zET {T:List (Str×Str)} {ad:Addr} (t:IsTab X.K X.mg x T ad):OpR X (compareOp .NotIn) (fun v y H Q=>∃ k,v=.str k/\y=.ref ad/\Q (.bl (!(T.lookup k).isSome)) H):=by
 intro pins s σ H v y u w Q I rx ry h
 obtain ⟨k,rfl,rfl,q⟩:=h
 obtain ⟨tk,rfl⟩:=rx
 cases ry
 refine KTD.notin_text ⟨t.tab s.heap I.kIn,fun _ _ e=>e⟩ ?_
 rw [zFz]
 exact ⟨.bl _,H,I.tok _,rfl,q⟩
theorem yI {h₀:Heap} {k:Str} {P:Value->Prop}:∀ {T:List (Str×Str)},(∀ z t,T.lookup k=some z->P (.str z t))->KTD.EachL h₀ k P (zGy T)
 | [],_=>trivial
 | [(x,y)],hP=>fun hk t=>hP y t (by rw [List.lookup_cons,show (k==x)=true from beq_iff_eq.mpr hk])
 | (x,y)::q::r,hP=>by
  show if decide (k=x)=true then KTD.Opened h₀ P (.flat (.str y)) else KTD.EachL h₀ k P (zGy (q::r))
  by_cases hk:k=x
  ·rw [if_pos (decide_eq_true hk)]
   exact fun t=>hP y t (by rw [List.lookup_cons,show (k==x)=true from beq_iff_eq.mpr hk])
  ·rw [if_neg (by simp [hk])]
   exact yI fun z t hz=>hP z t (by rw [List.lookup_cons,show (k==x)=false from beq_eq_false_iff_ne.mpr hk];exact hz)
theorem zDW (T:List (Str×Str)):((zGy T).all fun q=>KTD.plain q.2)=true:=by
 unfold zGy
 rw [List.all_map]
 exact List.all_eq_true.mpr fun _ _=>rfl
theorem zLP {T:List (Str×Str)} {ad:Addr} (t:IsTab X.K X.mg x T ad):IxR X (fun v y H Q=>∃ k z,v=.ref ad/\y=.str k/\T.lookup k=some z/\Q (.str z) H):=by
 intro value slice pins s σ H v y u w Q I rx ry h hs
 obtain ⟨k,z,rfl,rfl,hk,q⟩:=h
 cases rx
 obtain ⟨tk,rfl⟩:=ry
 refine KTD.item_textA ⟨t.tab s.heap I.kIn,fun _ _ e=>e⟩ (zDW T) (by rw [zFz,hk];rfl) ?_ hs
 refine yI fun z' t' hz=>?_
 rw [hk] at hz
 cases hz
 exact ⟨.str _,H,I.tok _,⟨_,rfl⟩,q⟩
theorem unT {o:D->Res D} {r:R2} {y:V} (hr:∀ (Hi H:Hp) (v:V) (d:D) (Q:VK),IsD X.K Hi v d->Same Hi H->(∃ d',o d=.ok d'/\(∀ w Hi' H',Ext Hi H Hi' H'->IsD X.K Hi' w d'->Q w H'))->r v y H Q)
  (he:∀ d c,o d≠.err c):∀ σ H Q,tD X G (eUn o f) σ H Q->tOp r (tD X G f) (tC y) σ H Q:=fun σ H Q q=>by
 obtain ⟨ρ,Hi,R,ou⟩:=q
 refine zCy R ou fun v d Hi1 H1 e1 R1 r1 o1=>?_
 cases z:o d with
 | no=>rw [z] at o1;exact o1.elim
 | err c=>exact absurd z (he d c)
 | ok d'=>rw [z] at o1;exact hr Hi1 H1 v d Q r1 R1.s ⟨d',z,fun w Hi' H' e1 r1=>o1 Hi' H' e1 w r1⟩
theorem zLd {T:List (Str×Str)} {ad:Addr}:∀ σ H Q,tD X G (eUn (pI T) f) σ H Q->tOp (fun v y H Q=>∃ k,v=.str k/\y=.ref ad/\Q (.bl (!(T.lookup k).isSome)) H) (tD X G f) (tC (.ref ad)) σ H Q:=
 unT (fun Hi H v d Q r s h=>by
  obtain ⟨d',z,q⟩:=h
  unfold pI at z
  split at z
  ·cases z;exact ⟨_,r.strI,rfl,q _ Hi H (Ext.refl s) (.bl _)⟩
  ·cases z) fun d c z=>by unfold pI at z;split at z<;>cases z
theorem zLx {op:CmpOp} {o:D->Res D} {r:R2} {y:V} (hp:PT X (.Compare a [op] [b] pos) (zKK (tOp r (tD X G f) (tC y)))) (hu:∀ σ H Q,tD X G (eUn o f) σ H Q->tOp r (tD X G f) (tC y) σ H Q):PTd X G (.Compare a [op] [b] pos) (gF (eUn o f)):=
 PT.wk hp fun σ H Q q=>by
  obtain ⟨ρ,Hi,R,ou⟩:=q
  refine hu σ H _ ⟨ρ,Hi,R,ou.bind.imp fun d Hi' H' e o v r=>?_⟩
  cases d with
  | bl c=>rw [r.blI];exact ⟨c,rfl,o.here e.s⟩
  | _=>exact o.elim
theorem zGq {T:List (Str×Str)} {ad:Addr} (t:IsTab X.K X.mg x T ad) (hg:Gl X x) (ha:PEd X G a f) (hm:behindInMarks .NotIn (.Name x p)=false) (hd:(x==("__debug__" : Str))=false:=by decide):PTd X G (.Compare a [.NotIn] [.Name x p] pos) (gF (eUn (pI T) f)):=
 zLx (zFw (zET t) ha (zHU t hg hd) hm) zLd
theorem zHE {T:List (Str×Str)} {ad:Addr} (t:IsTab X.K X.mg x T ad) (hg:Gl X x) (hb:PEd X G b g) (hs:zBB b) (hd:(x==("__debug__" : Str))=false:=by decide):PEd X G (.Subscript (.Name x p) b pos) (eUn (rY T) g):=
 PE.wk (zDb (zLP t) (zHU t hg hd) hb hs) fun σ H Q q=>by
  obtain ⟨ρ,Hi,R,ou⟩:=q
  refine zCy R ou fun v d Hi1 H1 e1 R1 r1 o1=>?_
  cases d with
  | str k=>
   have o2:Out G Hi1 H1 (zJW (T.lookup k)) _:=o1
   cases z:T.lookup k with
   | none=>rw [z] at o2;exact o2.elim
   | some y=>rw [z] at o2;exact ⟨k,y,rfl,r1.strI,z,o2.here R1.s _ (.str _)⟩
  | _=>exact o1.elim
end
end L3
namespace L3
open PySem PySem.Spec PyProof.Rows L2
unseal PEd PEf PTd PWd PAd PSd eX POd PGd jL PId PSx lI PTs PCd PCf
section
variable {prog:Program} {w:World} {A:Around} {R:Result->Shared->Prop} {I:Addr} {fp wr:List Addr} {n:Nat} {P:Nat->Value->Prop} {St:Nat->Heap->Prop} {kw:List (Str×Value)}
end
section
variable {X:Cx} {G:Gx} {a c:Expr} {pos p kp:Pos} {f g:Ev}
end
end L3
namespace L3
open PySem PySem.Spec PyProof.Rows L2
unseal PEd PEf PTd PWd PAd PSd eX POd PGd jL PId PSx lI PTs PCd PCf
section
variable {X:Cx} {G:Gx} {e:Expr} {pos:Pos} {f:Ev}
end
end L3
namespace L2
open PySem PySem.Spec PyProof.Rows
section
variable {κ:Type} [DecidableEq κ]
end
abbrev KT (H:Hp):List (List Key×V)->List (List Key×Addr×Value)->Prop:=Paired fun p q=>p.1=q.1/\H q.2.1=some (.tup (p.1.map kV))/\cY p.2 q.2.2
section
variable {P:Program} {w:World} {H:Hp} {h:Heap} {a:Addr}
end
section
variable {X:Cx} {pins:List (Addr×Obj)} {σ:St} {H:Hp} {s:Shared} {a:Addr} {y v:V} {u r:Value} {o:Option V} {A:Around} {E:Value->Shared->Prop}
end
section
variable {X:Cx} {pins:List (Addr×Obj)} {σ:St} {H:Hp} {s:Shared} {a:Addr} {kvs:List (Key×V)} {k:Key} {u:Value} {A:Around} {E:Value->Shared->Prop}
end
section
variable {X:Cx} {o i e value:Expr} {pos pos' tpos:Pos} {td ty tv:TE}
end
section
variable {X:Cx} {pos:Pos}
end
end L2
namespace L3
open PySem PySem.Spec PyProof.Rows L2
unseal PEd PEf PTd PWd PAd PSd eX POd PGd jL PId PSx lI PTs PCd PCf
section
variable {X:Cx} {G:Gx} {a b c e:Expr} {pos p2 p:Pos} {f g h:Ev} {fs:Fv} {x:Str}
end
end L3
namespace L3
open PySem PySem.Spec PyProof.Rows L2
def itN (k:Bool):String:=if k then "list_iterator" else "tuple_iterator"
def zCm (k:Bool) (h:Heap) (it l:Addr) (i:Nat):Prop:=if k then h.IsListIter it l i else h.IsTupleIter it l i
def tK (k:Bool) (h:Heap) (l:Addr) (xs:Array Value):Prop:=if k then h.IsList l xs else h.IsTuple l xs
theorem zCm.get {k:Bool} {h:Heap} {it l:Addr} {i:Nat} (x:zCm k h it l i):∃ o,h.get? it=some o/\o.cls=.type (itN k)/\o.data=.fields #[.ref l,.int i 0]:=by
 cases k<;>(obtain ⟨o,a,b,c⟩:=x;exact ⟨o,a,b,c⟩)
theorem zCm.mk {k:Bool} {h:Heap} {it l:Addr} {i:Nat} {o:Obj} (a:h.get? it=some o) (b:o.cls=.type (itN k)) (c:o.data=.fields #[.ref l,.int i 0]):zCm k h it l i:=by
 cases k<;>exact ⟨o,a,b,c⟩
theorem zCm.go {k:Bool} {h h':Heap} {it l:Addr} {i:Nat} (x:zCm k h it l i) (g:∀ o,h.get? it=some o->h'.get? it=some o):zCm k h' it l i:=by
 obtain ⟨o,a,b,c⟩:=x.get
 exact .mk (g o a) b c
theorem tK.go {k:Bool} {h h':Heap} {l:Addr} {xs:Array Value} (x:tK k h l xs) (g:∀ o,h.get? l=some o->h'.get? l=some o):tK k h' l xs:=by
 cases k<;>(obtain ⟨o,a,b⟩:=x;exact ⟨o,g o a,b⟩)
section
variable {prog:Program} {w:World} {A:Around} {E:Value->Shared->Prop} {s:Shared}
theorem zDU {k:Bool} {l:Addr} {xs:Array Value} {Q:Value->Shared->Prop} (hl:tK k s.heap l xs) (hQ:Q (.ref s.heap.objs.size) { s with heap:=s.heap.push { cls:=.type (itN k),data:=.fields #[.ref l,.int 0 0] } }):
  wpAny (model prog w) A (pyIter (.ref l)) Q E s:=by
 cases k
 ·exact wpAny_pyIter_tuple hl hQ
 ·exact wpAny_pyIter_list hl hQ
theorem nxT {it t:Addr} {i:Nat} {items:Array Value} {Q:Value->Shared->Prop} (hh:A.handled=none∨(items[i]?).isSome=true) (x:s.heap.IsTupleIter it t i) (y:s.heap.IsTuple t items)
  (go:∀ v,items[i]?=some v->∀ h2,h2.IsTupleIter it t (i+1)->Heap.SameBut it s.heap h2->Q v { s with heap:=h2 })
  (stop:items[i]?=none->∀ h2 e,Heap.ExtBut it s.heap h2->(∃ ob,h2.get? e=some ob/\ob.cls=.type "StopIteration")->E (.ref e) { s with heap:=h2 }):wpAny (model prog w) A (Builtin.SmallTypes.nextOf (.ref it)) Q E s:=by
 obtain ⟨oi,ei,ci,di⟩:=id x
 obtain ⟨ot,et,_,nt,dt⟩:=y
 have nn:¬ ((Value.ref t==Value.none)=true):=Bool.false_ne_true
 unfold Builtin.SmallTypes.nextOf
 refine wpAny_bind (wpAny_callSpecial?_slot (name:=Str.ofString "__next__") x.typeIs F.slot_tuple_iterator_next (wpAny_call_entry F.slot_tuple_iterator_next x.typeIs F.entry_tuple_iterator_next (show wpAny _ _ (field _ 0 >>= _) _ _ s from wpAny_bind (wpAny_field ei di (x:=.ref t) rfl ?_)) (F.args_tuple_iterator_next_1 _)))
 show wpAny _ _ (ite ((Value.ref t==Value.none)=true) _ _) _ _ s
 rw [if_neg nn]
 refine show wpAny _ _ (field _ 1 >>= _) _ _ s from wpAny_bind (wpAny_field ei di (x:=.int i 0) rfl (show wpAny _ _ (seqItems? _ >>= _) _ _ s from wpAny_bind (wpAny_seqItems et dt ?_)))
 have fr:∀ g:Array Value->Array Value,Heap.get? (s.heap.update it (Obj.mapFields g)) it=some (Obj.mapFields g oi):=fun g=>Heap.get?_update_self _ ei (Obj.isFreed_of_fields (Obj.data_mapFields di g))
 cases q:items[i]? with
 | some v=>
  simp only [Int.toNat_natCast,q]
  refine wpAny_bind (wpAny_setField ei di (by simp) (wpAny_pure ⟨v,rfl,wpAny_pure (go v q _ ⟨_,fr _,(Obj.cls_mapFields ..).trans ci,?_⟩ (Heap.SameBut.update ..))⟩))
  rw [Obj.data_mapFields di]
  simp [rawInt]
 | none=>
  have hh:A.handled=none:=hh.elim id fun z=>by rw [q] at z;cases z
  simp only [Int.toNat_natCast,q]
  refine wpAny_bind (wpAny_rule (wpAny_bind (wpAny_setField ei di (by simp) (show wpAny _ _ (newExc _ [] >>= _) _ _ _ from wpAny_bind ?_))))
  simp only [newExc,newTuple]
  refine wpAny_bind (wpAny_newObj_type (wpAny_bind (m:=firstArgMember _ _) (wpAny_of_eq (a:=Value.none) (by first | rfl | (simp only [firstArgMember];rfl)) (wpAny_newObj_type ?_ (by size_fits)))) (by size_fits))
  simp only [raiseNew]
  refine wpAny_bind (wpAny_handled ?_)
  rw [show A.in1.handled=none from hh]
  exact wpAny_bind (wpAny_pure (wpAny_throw (stop q _ _ (((Heap.SameBut.update ..).extBut.push _).push _) ⟨_,Heap.get?_push_size _ rfl,rfl⟩)))
theorem zFT {k:Bool} {it t:Addr} {i:Nat} {items:Array Value} {x:Value} {Q:Value->Shared->Prop} (hit:zCm k s.heap it t i) (ht:tK k s.heap t items) (hx:items[i]?=some x)
  (hQ:∀ h',zCm k h' it t (i+1)->Heap.SameBut it s.heap h'->Q x { s with heap:=h' }):wpAny (model prog w) A (Builtin.SmallTypes.nextOf (.ref it)) Q E s:=by
 cases k
 ·exact nxT (.inr (by rw [hx];rfl)) hit ht (fun v q h2 g1 g2=>by rw [hx] at q;cases q;exact hQ h2 g1 g2) fun q=>by rw [hx] at q;cases q
 ·exact wpAny_nextOf_list_item hit ht hx hQ
theorem zHK {k:Bool} {it t:Addr} {i:Nat} {items:Array Value} {Q:Value->Shared->Prop} (hh:A.handled=none) (hit:zCm k s.heap it t i) (ht:tK k s.heap t items) (hx:items[i]?=none)
  (hE:∀ h' e,Heap.ExtBut it s.heap h'->(∃ o,h'.get? e=some o/\o.cls=.type "StopIteration")->E (.ref e) { s with heap:=h' }):wpAny (model prog w) A (Builtin.SmallTypes.nextOf (.ref it)) Q E s:=by
 cases k
 ·exact nxT (.inl hh) hit ht (fun v q=>by rw [hx] at q;cases q) fun _=>hE
 ·exact wpAny_nextOf_list_end hh hit ht hx hE
def uR (f0:Value) (k1 k2:Bool) (l1 l2 n:Addr) (j1 j2:Nat) (h:Heap):Prop:=
 IsZip h (n+4) (n+2) (n+3) f0/\IsPair h (n+2) (.ref n) (.ref (n+1))/\(∃ a b,IsPair h (n+3) a b)/\zCm k1 h n l1 j1/\zCm k2 h (n+1) l2 j2
def mE (n:Addr) (h h2:Heap):Prop:=∀ c o,c≠n+4->c≠n+3->c≠n->c≠n+1->h.get? c=some o->h2.get? c=some o
theorem mE.then {n:Addr} {h h1 h2:Heap} (a:mE n h h1) (b:mE n h1 h2):mE n h h2:=fun c o c1 c2 c3 c4 e=>b c o c1 c2 c3 c4 (a c o c1 c2 c3 c4 e)
theorem mE.eb {n a:Addr} {h h2:Heap} (k:Heap.ExtBut a h h2) (m:a=n+4∨a=n+3∨a=n∨a=n+1):mE n h h2:=fun c o c1 c2 c3 c4 e=>k c o (fun z=>by subst z;rcases m with m | m | m | m<;>contradiction) e
theorem mE.sq {k:Bool} {n l:Addr} {h h2:Heap} {xs:Array Value} (a:mE n h h2) (hl:l < n) (x:tK k h l xs):tK k h2 l xs:=
 x.go fun o e=>a l o (Nat.ne_of_lt (Nat.lt_add_right 4 hl)) (Nat.ne_of_lt (Nat.lt_add_right 3 hl)) (Nat.ne_of_lt hl) (Nat.ne_of_lt (Nat.lt_succ_of_lt hl)) e
theorem zGz (n:Addr):n+3≠n+4/\n+2≠n+4/\n≠n+4/\n+1≠n+4/\n+2≠n+3/\n≠n+3/\n+1≠n+3/\n+2≠n/\n+1≠n/\n+2≠n+1:=by
 refine ⟨?_,?_,?_,?_,?_,?_,?_,?_,?_,?_⟩<;>(intro z;have z':(_:Nat)=_:=z;omega)
theorem uR.fld {f0:Value} {k1 k2:Bool} {l1 l2 n:Addr} {j1 j2:Nat} {h h2:Heap} (g:uR f0 k1 k2 l1 l2 n j1 j2 h) {f1:Value} (z:IsZip h2 (n+4) (n+2) (n+3) f1) (s:Heap.ExtBut (n+4) h h2):uR f1 k1 k2 l1 l2 n j1 j2 h2:=by
 obtain ⟨_,g2,⟨a,b,g3⟩,g4,g5⟩:=g
 obtain ⟨e1,e2,e3,e4,_⟩:=zGz n
 exact ⟨z,s _ _ e2 g2,⟨a,b,s _ _ e1 g3⟩,g4.go fun o e=>s _ o e3 e,g5.go fun o e=>s _ o e4 e⟩
theorem uR.it1 {f0:Value} {k1 k2:Bool} {l1 l2 n:Addr} {j1 j2 m:Nat} {h h2:Heap} (g:uR f0 k1 k2 l1 l2 n j1 j2 h) (z:zCm k1 h2 n l1 m) (s:Heap.ExtBut n h h2):uR f0 k1 k2 l1 l2 n m j2 h2:=by
 obtain ⟨g1,g2,⟨a,b,g3⟩,_,g5⟩:=g
 obtain ⟨e1,e2,e3,e4,e5,e6,e7,e8,e9,_⟩:=zGz n
 exact ⟨s _ _ e3.symm g1,s _ _ e8 g2,⟨a,b,s _ _ e6.symm g3⟩,z,g5.go fun o e=>s _ o e9 e⟩
theorem uR.it2 {f0:Value} {k1 k2:Bool} {l1 l2 n:Addr} {j1 j2 m:Nat} {h h2:Heap} (g:uR f0 k1 k2 l1 l2 n j1 j2 h) (z:zCm k2 h2 (n+1) l2 m) (s:Heap.ExtBut (n+1) h h2):uR f0 k1 k2 l1 l2 n j1 m h2:=by
 obtain ⟨g1,g2,⟨a,b,g3⟩,g4,_⟩:=g
 obtain ⟨e1,e2,e3,e4,e5,e6,e7,e8,e9,e10⟩:=zGz n
 exact ⟨s _ _ e4.symm g1,s _ _ e10 g2,⟨a,b,s _ _ e7.symm g3⟩,g4.go fun o e=>s _ o e9.symm e,z⟩
theorem uR.out {f0 a b:Value} {k1 k2:Bool} {l1 l2 n:Addr} {j1 j2:Nat} {h h2:Heap} (g:uR f0 k1 k2 l1 l2 n j1 j2 h) (z:IsPair h2 (n+3) a b) (s:Heap.ExtBut (n+3) h h2):uR f0 k1 k2 l1 l2 n j1 j2 h2:=by
 obtain ⟨g1,g2,_,g4,g5⟩:=g
 obtain ⟨e1,e2,e3,e4,e5,e6,e7,_⟩:=zGz n
 exact ⟨s _ _ e1.symm g1,s _ _ e5 g2,⟨a,b,z⟩,g4.go fun o e=>s _ o e6 e,g5.go fun o e=>s _ o e7 e⟩
theorem zNZ {k1 k2:Bool} {n l1 l2:Addr} {j:Nat} {xs ys:Array Value} {Q:PySem.Fin->Shared->Prop} (hh:A.handled=none) (b1:l1 < n) (b2:l2 < n) (g:uR .none k1 k2 l1 l2 n j j s.heap) (d1:tK k1 s.heap l1 xs) (d2:tK k2 s.heap l2 ys)
  (go:∀ x y,xs[j]?=some x->ys[j]?=some y->∀ h2,uR (rawInt s.heap.objs.size) k1 k2 l1 l2 n (j+1) (j+1) h2->IsPair h2 s.heap.objs.size x y->mE n s.heap h2->Q (.done (.ret (.ref s.heap.objs.size))) { s with heap:=h2 })
  (stop:xs[j]?=none∨ys[j]?=none->∀ h2 e,mE n s.heap h2->(∃ o,h2.get? e=some o/\o.cls=.type "StopIteration")->E (.ref e) { s with heap:=h2 }):
  wpAny (model prog w) A (Builtin.«zip.__next__» ⟨[.ref (n+4)],[]⟩) Q E s:=by
 have stopZ:∀ {h1:Heap} {e:Addr} {v:Value} {k:Nat} {R:Unit->Shared->Prop},(xs[j]?=none∨ys[j]?=none)->mE n s.heap h1->IsZip h1 (n+4) (n+2) (n+3) .ellipsis->(∃ o,h1.get? e=some o/\o.cls=.type "StopIteration")->k < 5->
   (∀ h3,mE n s.heap h3->(∃ o,h3.get? e=some o/\o.cls=.type "StopIteration")->R () { s with heap:=h3 })->wpAny (model prog w) A (setField (.ref (n+4)) k v) R E { s with heap:=h1 }:=by
  intro h1 e v k R q kz z he hk fin
  obtain ⟨oe,e1,e2⟩:=he
  have nz:e≠n+4:=fun y=>by subst y;rw [z] at e1;cases e1;simp at e2
  exact wpAny_setField_rec z (by simpa using hk) fun h3 _ s3=>fin h3 (kz.then (.eb s3.extBut (.inl rfl))) ⟨oe,s3.extBut _ _ nz e1,e2⟩
 obtain ⟨z0,t0,⟨a,b,p0⟩,_⟩:=id g
 refine show wpAny _ _ (field _ 2 >>= _) _ _ s from wpAny_bind (wpAny_field z0 rfl (x:=.bool false) rfl (show wpAny _ _ (field _ 3 >>= _) _ _ s from wpAny_bind (wpAny_field z0 rfl (x:=.ref (n+2)) rfl (wpAny_bind (wpAny_seqItems t0 rfl (wpAny_bind ?_))))))
 unfold Builtin.SmallTypes.ownedTupleIsFree
 refine wpAny_bind (wpAny_field z0 rfl (x:=.none) rfl (wpAny_pure ?_))
 simp only [if_true]
 refine wpAny_bind (wpAny_rule (wpAny_bind (wpAny_field z0 rfl (x:=.ref (n+3)) rfl (wpAny_bind (wpAny_setField_rec z0 (by simp) fun h1 z1 s1=>wpAny_bind ?_)))))
 have g1:uR .ellipsis k1 k2 l1 l2 n j j h1:=g.fld z1 s1.extBut
 have k1':mE n s.heap h1:=.eb s1.extBut (.inl rfl)
 simp only [List.zipIdx_cons,List.zipIdx_nil,List.forIn_cons,List.forIn_nil]
 refine wpAny_bind (wpAny_bind (wpAny_onRaise (show wpAny _ _ (Builtin.SmallTypes.nextOf _ >>= _) _ _ _ from wpAny_bind ?_)))
 cases q1:xs[j]? with
 | none=>
  refine zHK (s:={ s with heap:=h1 }) hh g1.2.2.2.1 (k1'.sq b1 d1) q1 fun h2 e x2 he=>stopZ (.inl q1) (k1'.then (.eb x2 (.inr (.inr (.inl rfl))))) (x2 _ _ (zGz n).2.2.1.symm g1.1) he (by decide) fun h3=>stop (.inl q1) h3 e
 | some x=>
  refine zFT (s:={ s with heap:=h1 }) g1.2.2.2.1 (k1'.sq b1 d1) q1 fun h2 i2 s2=>wpAny_pure ?_
  have g2:=g1.it1 i2 s2.extBut
  have k2':=k1'.then (.eb s2.extBut (.inr (.inr (.inl rfl))))
  have p2:IsPair h2 (n+3) a b:=s2.extBut _ _ (zGz n).2.2.2.2.2.1.symm (s1.extBut _ _ (zGz n).1 p0)
  refine wpAny_bind (wpAny_seqItems (s:={ s with heap:=h2 }) p2 rfl (wpAny_bind (wpAny_updateSeq_pair p2 fun h3 p3 s3=>wpAny_bind (wpAny_letGo (wpAny_pure ?_)))))
  have g3:=g2.out p3 s3.extBut
  have k3':=k2'.then (.eb s3.extBut (.inr (.inl rfl)))
  refine wpAny_bind (wpAny_bind (wpAny_onRaise (show wpAny _ _ (Builtin.SmallTypes.nextOf _ >>= _) _ _ _ from wpAny_bind ?_)))
  cases q2:ys[j]? with
  | none=>
   refine zHK (s:={ s with heap:=h3 }) hh g3.2.2.2.2 (k3'.sq b2 d2) q2 fun h4 e x4 he=>stopZ (.inr q2) (k3'.then (.eb x4 (.inr (.inr (.inr rfl))))) (x4 _ _ (zGz n).2.2.2.1.symm g3.1) he (by decide) fun h5=>stop (.inr q2) h5 e
  | some y=>
   refine zFT (s:={ s with heap:=h3 }) g3.2.2.2.2 (k3'.sq b2 d2) q2 fun h4 i4 s4=>wpAny_pure ?_
   have g4:=g3.it2 i4 s4.extBut
   have p4:IsPair h4 (n+3) x b:=s4.extBut _ _ (zGz n).2.2.2.2.2.2.1.symm p3
   refine wpAny_bind (wpAny_seqItems (s:={ s with heap:=h4 }) p4 rfl (wpAny_bind (wpAny_updateSeq_pair p4 fun h5 p5 s5=>wpAny_bind (wpAny_letGo (wpAny_pure (wpAny_pure ?_))))))
   have p5:IsPair h5 (n+3) x y:=p5
   have g5:=g4.out p5 s5.extBut
   have k5':=(k3'.then (.eb s4.extBut (.inr (.inr (.inr rfl))))).then (.eb s5.extBut (.inr (.inl rfl)))
   have sz:h5.objs.size=s.heap.objs.size:=s5.1.trans (s4.1.trans (s3.1.trans (s2.1.trans s1.1)))
   refine wpAny_bind (wpAny_seqItems (s:={ s with heap:=h5 }) p5 rfl (wpAny_bind (wpAny_newTuple (show wpAny _ _ (Builtin.SmallTypes.ownedTupleHandOut _ (.ref h5.objs.size) >>= _) _ _ _ from wpAny_bind ?_))))
   unfold Builtin.SmallTypes.ownedTupleHandOut
   refine wpAny_bind (wpAny_setField_rec (Heap.get?_push_of_some _ g5.1) (by simp) fun h7 z7 s7=>wpAny_setField_rec z7 (by simp) fun h8 z8 s8=>wpAny_pure ?_)
   have nz:h5.objs.size≠n+4:=Nat.ne_of_gt (Heap.lt_size g5.1)
   have x8:Heap.ExtBut (n+4) h5 h8:=fun c o c1 e=>s8.extBut _ _ c1 (s7.extBut _ _ c1 (Heap.get?_push_of_some _ e))
   have g8:uR (rawInt h5.objs.size) k1 k2 l1 l2 n (j+1) (j+1) h8:=g5.fld z8 x8
   have t8:IsPair h8 h5.objs.size x y:=s8.extBut _ _ nz (s7.extBut _ _ nz (Heap.get?_push_size _ rfl))
   rw [sz] at g8 t8
   show Q (.done (.ret (.ref h5.objs.size))) _
   rw [sz]
   exact go x y q1 q2 h8 g8 t8 (k5'.then (.eb x8 (.inl rfl)))
theorem zNL {k1 k2:Bool} {n l1 l2:Addr} {j:Nat} {xs ys:Array Value} {Q:Option Value->Shared->Prop} (hh:A.handled=none) (b1:l1 < n) (b2:l2 < n) (g:uR .none k1 k2 l1 l2 n j j s.heap) (d1:tK k1 s.heap l1 xs) (d2:tK k2 s.heap l2 ys)
  (go:∀ x y,xs[j]?=some x->ys[j]?=some y->∀ h2,uR (rawInt s.heap.objs.size) k1 k2 l1 l2 n (j+1) (j+1) h2->IsPair h2 s.heap.objs.size x y->mE n s.heap h2->Q (some (.ref s.heap.objs.size)) { s with heap:=h2 })
  (stop:xs[j]?=none∨ys[j]?=none->∀ h2,mE n s.heap h2->Q none { s with heap:=h2 }):wpAny (model prog w) A (pyNext (.ref (n+4))) Q E s:=by
 have ty:s.TypeIs (.ref (n+4)) "zip" := ⟨_,g.1,rfl⟩
 unfold pyNext
 refine wpAny_bind (wpAny_attempt (wpAny_callSpecial?_slot (name:=Str.ofString "__next__") ty F.slot_zip_next (wpAny_call_entry F.slot_zip_next ty F.entry_zip_next
  (zNZ hh b1 b2 g d1 d2 (fun x y q1 q2 h2 a1 a2 a3=>⟨_,rfl,wpAny_pure (go x y q1 q2 h2 a1 a2 a3)⟩) fun q h2 e k he=>?_) (F.args_zip_next_1 _))))
 obtain ⟨o,eo,co⟩:=he
 exact wpAny_bind (wpAny_isInstance (T := "StopIteration") (b:=true) ⟨o,eo,co⟩ isSubtype_stop (wpAny_pure (stop q h2 k)))
end
abbrev zO (k:Bool) (l:Addr):Obj:={ cls:=.type (itN k),data:=.fields #[.ref l,.int 0 0] }
abbrev zH2 (k1 k2:Bool) (h:Heap) (l1 l2:Addr):Heap:=(h.push (zO k1 l1)).push (zO k2 l2)
abbrev zH3 (k1 k2:Bool) (h:Heap) (l1 l2:Addr):Heap:=(zH2 k1 k2 h l1 l2).push { cls:=.type "tuple", data:=.seq #[.ref h.objs.size,.ref (h.push (zO k1 l1)).objs.size] }
abbrev zH4 (k1 k2:Bool) (h:Heap) (l1 l2:Addr):Heap:=(zH3 k1 k2 h l1 l2).push { cls:=.type "tuple", data:=.seq #[.none,.none] }
abbrev zH5 (k1 k2:Bool) (h:Heap) (l1 l2:Addr):Heap:=(zH4 k1 k2 h l1 l2).push { cls:=.type "zip", data:=.fields #[.none,.bool false,.bool false,.ref (zH2 k1 k2 h l1 l2).objs.size,.ref (zH3 k1 k2 h l1 l2).objs.size] }
theorem zGK (k1 k2:Bool) (l1 l2:Addr) (xs ys:Array Value):Meets (Builtin.«zip.__new__» ⟨[.type "zip", .ref l1,.ref l2],[]⟩) (fun _ R s=>tK k1 s.heap l1 xs/\tK k2 s.heap l2 ys/\
  R (.ok (.ret (.ref (zH4 k1 k2 s.heap l1 l2).objs.size))) { s with heap:=zH5 k1 k2 s.heap l1 l2 }):=
 .of_wp fun prog w A R s h=>by
  obtain ⟨hp,g,d,tk,os⟩:=s
  obtain ⟨hl1,hl2,h⟩:=h
  have hsub:=sub_zip
  have d1:tK k1 (Shared.heap ⟨hp,g,d,tk,os⟩) l1 xs:=hl1
  have d2:tK k2 (Shared.heap ⟨hp.push { cls:=.type (itN k1),data:=.fields #[.ref l1,.int 0 0] },g,d,tk,os⟩) l2 ys:=hl2.go fun o e=>Heap.get?_push_of_some _ e
  wp_walk using zDU d1,zDU d2
  exact ⟨_,rfl,h⟩
section
variable {prog:Program} {w:World} {A:Around} {E:Value->Shared->Prop} {s:Shared}
theorem zGn {k1 k2:Bool} {l1 l2:Addr} {xs ys:Array Value} {Q:Value->Shared->Prop} (d1:tK k1 s.heap l1 xs) (d2:tK k2 s.heap l2 ys)
  (h:∀ h2,uR .none k1 k2 l1 l2 s.heap.objs.size 0 0 h2->(∀ c o,s.heap.get? c=some o->h2.get? c=some o)->Q (.ref (s.heap.objs.size+4)) { s with heap:=h2 }):wpAny (model prog w) A (call (.type "zip") [.ref l1,.ref l2]) Q E s:=by
 refine callType_new F.called_zip (by decide) (F.typeCall_zip_2 _ _) (F.newCall_zip_2 _ _) (fun obj=>F.args_object_init_3 obj _ _) F.entry_zip_new (zGK k1 k2 l1 l2 xs ys) ⟨d1,d2,?_⟩
 have up:∀ {h:Heap} {a:Addr} {o ob:Obj},h.get? a=some o->(h.push ob).get? a=some o:=fun e=>Heap.get?_push_of_some _ e
 have m1:(s.heap.push (zO k1 l1)).objs.size=s.heap.objs.size+1:=Heap.size_push ..
 have m2:(zH2 k1 k2 s.heap l1 l2).objs.size=s.heap.objs.size+2:=(Heap.size_push ..).trans (congrArg (·+1) m1)
 have m3:(zH3 k1 k2 s.heap l1 l2).objs.size=s.heap.objs.size+3:=(Heap.size_push ..).trans (congrArg (·+1) m2)
 have m4:(zH4 k1 k2 s.heap l1 l2).objs.size=s.heap.objs.size+4:=(Heap.size_push ..).trans (congrArg (·+1) m3)
 have r0:(zH5 k1 k2 s.heap l1 l2).get? s.heap.objs.size=some (zO k1 l1):=up (up (up (up (Heap.get?_push_size _ rfl))))
 have r1:(zH5 k1 k2 s.heap l1 l2).get? (s.heap.push (zO k1 l1)).objs.size=some (zO k2 l2):=up (up (up (Heap.get?_push_size _ rfl)))
 have r2:(zH5 k1 k2 s.heap l1 l2).get? (zH2 k1 k2 s.heap l1 l2).objs.size=some _:=up (up (Heap.get?_push_size _ rfl))
 have r3:(zH5 k1 k2 s.heap l1 l2).get? (zH3 k1 k2 s.heap l1 l2).objs.size=some _:=up (Heap.get?_push_size _ rfl)
 have r4:(zH5 k1 k2 s.heap l1 l2).get? (zH4 k1 k2 s.heap l1 l2).objs.size=some _:=Heap.get?_push_size _ rfl
 rw [m1] at r1
 rw [m1,m2] at r2
 rw [m3] at r3
 rw [m2,m3,m4] at r4
 show _/\_
 rw [m4]
 exact ⟨⟨_,r4,rfl⟩,h _ ⟨r4,r2,⟨_,_,r3⟩,.mk r0 rfl rfl,.mk r1 rfl rfl⟩ fun c o x=>up (up (up (up (up x))))⟩
end
end L3
namespace L3
open PySem PySem.Spec PyProof.Rows L2
section
variable {X:Cx} {pins:List (Addr×Obj)} {σ:St} {H:Hp} {s:Shared} {h':Heap} {fp:List Addr}
theorem zIr {t':Nat} {p:Addr} {xs:List V} {us:List Value} (I:Inv X pins σ H s) (hf:∀ b∈fp,qJ X pins H b) (k:∀ b o,b∉fp->s.heap.get? b=some o->h'.get? b=some o)
  (hp:s.heap.objs.size<=p) (ht:IsTup h' p us.toArray) (hv:dG xs us) (hz:xs.length<=sizeLine):Inv X pins σ (upd H p (.tup xs)) { s with heap:=h',toks:=t' }:=by
 have hn:H p=none:=I.hok.fresh hp
 have nf:∀ b u,H b=some u->b∉fp:=fun b u e z=>by rw [(hf b z).1] at e;cases e
 have np:∀ b u,H b=some u->upd H p (.tup xs) b=some u:=fun b u e=>by rw [bC (bB e hn)];exact e
 refine I.step (g':=s.gens) (d':=s.drawn) (ch:=fp) (fun b hb=>⟨(hf b hb).2.2.2.1,(hf b hb).2.1,(hf b hb).2.2.2.2.1,(hf b hb).2.2.2.2.2⟩) (fun b o _ _ hc e _=>k b o hc e) (fun b o _ _ hc e _=>⟨o.slots,k b o hc e⟩) (fun b o _ e n=>?_)
  (fun b o hc e=>⟨o,k b o hc e⟩) (fun b xs e=>np _ _ e) (fun b o u e=>np _ _ e) (fun b ps e=>⟨#[],by rw [np _ _ e];simp⟩) (fun m hm=>?_) (fun b u e=>?_) I.bare
 ·rw [bC (Nat.ne_of_lt (Nat.lt_of_lt_of_le (Heap.lt_size e) hp))];exact n
 ·obtain ⟨o,es,ep,ho,r⟩:=hm
  exact ⟨o,es,ep,k _ o (fun z=>(hf _ z).2.1 rfl) ho,r⟩
 ·by_cases hb:b=p
  ·subst hb
   rw [aZ] at e;cases e
   exact ⟨hz,us,hv,ht⟩
  ·rw [bC hb] at e
   refine (I.hok b u e).stay (fun c v hc q=>k c v ?_ q) (fun _ q=>np _ _ q) fun _ _ q=>np _ _ q
   rcases hc with z | z
   ·rw [z];exact nf b u e
   ·exact nf c _ z
theorem zIt {t':Nat} (I:Inv X pins σ H s) (hf:∀ b∈fp,qJ X pins H b) (k:∀ b o,b∉fp->s.heap.get? b=some o->h'.get? b=some o):Inv X pins σ H { s with heap:=h',toks:=t' }:=by
 have nf:∀ b u,H b=some u->b∉fp:=fun b u e z=>by rw [(hf b z).1] at e;cases e
 refine I.step (g':=s.gens) (d':=s.drawn) (ch:=fp) (fun b hb=>⟨(hf b hb).2.2.2.1,(hf b hb).2.1,(hf b hb).2.2.2.2.1,(hf b hb).2.2.2.2.2⟩) (fun b o _ _ hc e _=>k b o hc e) (fun b o _ _ hc e _=>⟨o.slots,k b o hc e⟩) (fun b o _ e n=>n)
  (fun b o hc e=>⟨o,k b o hc e⟩) (fun b xs e=>e) (fun b o u e=>e) (fun b ps e=>⟨#[],by rw [e];simp⟩) (fun m hm=>?_) (fun b u e=>?_) I.bare
 ·obtain ⟨o,es,ep,ho,r⟩:=hm
  exact ⟨o,es,ep,k _ o (fun z=>(hf _ z).2.1 rfl) ho,r⟩
 ·refine (I.hok b u e).stay (fun c v hc q=>k c v ?_ q) (fun _ q=>q) fun _ _ q=>q
  rcases hc with z | z
  ·rw [z];exact nf b u e
  ·exact nf c _ z
end
def SqK (k:Bool) (K:PySem.W.Frag) (H:Hp) (a:Addr) (xs:List V):Prop:=if k then SqL K H a xs else SqT K H a xs
theorem qS {k:Bool} {K:PySem.W.Frag} {H H':Hp} (e:Same H H') {a:Addr} {xs:List V} (h:SqK k K H a xs):SqK k K H' a xs:=by
 cases k
 ·exact bY e h
 ·exact cQ e h
section
variable {X:Cx} {pins:List (Addr×Obj)} {σ:St} {H:Hp} {s:Shared} {k:Bool} {a:Addr} {xs ys:List V}
theorem sqI (I:Inv X pins σ H s) (h:SqK k X.K H a xs):∃ its:List Value,dG xs its/\tK k s.heap a its.toArray/\xs.length<=sizeLine:=by
 cases k
 ·obtain ⟨its,rv,p,hz⟩:=I.tuple h
  exact ⟨its,rv,p,hz⟩
 ·obtain ⟨its,rv,p,hz⟩:=I.list h
  exact ⟨its,rv,p.isList,hz⟩
theorem zEX (I:Inv X pins σ H s) (h:SqK k X.K H a xs) (h':SqK k X.K H a ys):xs=ys:=by
 cases k
 ·exact I.tuple_inj h h'
 ·exact I.list_inj h h'
theorem tK.lt {h:Heap} {l:Addr} {xs:Array Value} (x:tK k h l xs):l < h.objs.size:=by
 cases k<;>(obtain ⟨o,e,_⟩:=x;exact Heap.lt_size e)
end
def Itz (K:PySem.W.Frag) (k1 k2:Bool) (a1 a2:Addr):It:=
  ⟨fun i H=>∃ xs ys x y,SqK k1 K H a1 xs/\SqK k2 K H a2 ys/\xs[i]?=some x/\ys[i]?=some y,
   fun i H v H'=>∃ p x y,v=.ref p/\H p=none/\H'=upd H p (.tup [x,y])/\(∀ xs,SqK k1 K H a1 xs->xs[i]?=some x)/\∀ ys,SqK k2 K H a2 ys->ys[i]?=some y,
   fun i H=>∃ xs ys,SqK k1 K H a1 xs/\SqK k2 K H a2 ys/\(xs.length<=i∨ys.length<=i)⟩
def zOc (k1 k2:Bool) (a1 a2 n:Addr) (i:Nat) (h:Heap):Prop:=uR .none k1 k2 a1 a2 n i i h
theorem qU {h:Heap} {b:Addr} {o:Obj} {d:Data} (e:h.get? b=some o) (hd:o.data=d) (nd:∀ v,d≠.cell v):∃ o,h.get? b=some o/\∀ v,o.data≠.cell v:=⟨o,e,fun v z=>nd v (hd.symm.trans z)⟩
theorem zGV {P:Program} {w:World} {K:PySem.W.Frag} {elts:List Expr} {x1:Nat} {tp:Pos} (k1 k2:Bool) (a1 a2 n:Addr) (l1:a1 < n) (l2:a2 < n):
  Turn P w K (.Tuple elts x1 tp) (Itz K k1 k2 a1 a2) [n+4,n+2,n+3,n,n+1] (n+4) (zOc k1 k2 a1 a2 n) where
 mem:=by simp
 obj:=fun i h st b hb=>by
  obtain ⟨t1,t2,⟨a,b',t3⟩,t4,t5⟩:=st
  obtain ⟨o4,e4,_,d4⟩:=t4.get
  obtain ⟨o5,e5,_,d5⟩:=t5.get
  simp only [List.mem_cons,List.not_mem_nil,or_false] at hb
  rcases hb with rfl | rfl | rfl | rfl | rfl
  ·exact qU t1 rfl fun v z=>by cases z
  ·exact qU t2 rfl fun v z=>by cases z
  ·exact qU t3 rfl fun v z=>by cases z
  ·exact qU e4 d4 fun v z=>by cases z
  ·exact qU e5 d5 fun v z=>by cases z
 keep:=fun i h h' st k=>by
  obtain ⟨t1,t2,⟨a,b',t3⟩,t4,t5⟩:=st
  exact ⟨k _ (by simp) _ t1,k _ (by simp) _ t2,⟨a,b',k _ (by simp) _ t3⟩,t4.go fun o e=>k _ (by simp) o e,t5.go fun o e=>k _ (by simp) o e⟩
 item:=by
  intro X hP hw hK hc i pins s σ H E I hf st hg
  subst hP hw hK
  obtain ⟨xs,ys,x,y,q1,q2,hx,hy⟩:=hg
  obtain ⟨us,r1,s1,z1⟩:=sqI I q1
  obtain ⟨ws,r2,s2,z2⟩:=sqI I q2
  obtain ⟨u,hu,ru⟩:=r1.get hx
  obtain ⟨v,hv,rv⟩:=r2.get hy
  have hu':us.toArray[i]?=some u:=by simpa using hu
  have hv':ws.toArray[i]?=some v:=by simpa using hv
  have st':=st
  obtain ⟨t1,t2,⟨a,b,t3⟩,t4,t5⟩:=st
  refine zNL (I.ok.hd hc) l1 l2 st' s1 s2 (fun x' y' f1 f2 h' g' p' kz=>?_) (fun q=>?_)
  rotate_left
  ·rw [hu',hv'] at q;rcases q with q | q<;>cases q
  rw [hu'] at f1;cases f1
  rw [hv'] at f2;cases f2
  refine ⟨_,rfl,wpAny_letOwnedTupleGo_zip (s:={ s with heap:=h' }) g'.1 fun h'' c1 c2=>?_⟩
  have zl:s.heap.objs.size≠n+4:=Nat.ne_of_gt (Heap.lt_size t1)
  have np:H s.heap.objs.size=none:=I.hok.fresh (Nat.le_refl _)
  have I1:Inv X pins σ (upd H s.heap.objs.size (.tup [x,y])) { s with heap:=h'',toks:=s.toks }:=zIr (us:=[u,v]) I hf (fun b o hb e=>by
    simp only [List.mem_cons,List.not_mem_nil,or_false,not_or] at hb
    exact c2.extBut b o hb.1 (kz b o hb.1 hb.2.2.1 hb.2.2.2.1 hb.2.2.2.2 e)) (Nat.le_refl _) ⟨_,c2.extBut _ _ zl p',rfl,_,rfl⟩ (.cons ru (.cons rv .nil)) (show 2<=sizeLine by decide)
  refine ⟨.ref s.heap.objs.size,_,I1,rfl,⟨_,x,y,rfl,np,rfl,fun zs hz=>by rw [zEX I hz q1];exact hx,fun zs hz=>by rw [zEX I hz q2];exact hy⟩,g'.fld c1 c2.extBut,fun b hb=>?_⟩
  ·obtain ⟨o,e,_⟩:∃ o,s.heap.get? b=some o/\True:=by
    obtain ⟨o4,e4,_⟩:=t4.get
    obtain ⟨o5,e5,_⟩:=t5.get
    simp only [List.mem_cons,List.not_mem_nil,or_false] at hb
    rcases hb with rfl | rfl | rfl | rfl | rfl
    ·exact ⟨_,t1,trivial⟩
    ·exact ⟨_,t2,trivial⟩
    ·exact ⟨_,t3,trivial⟩
    ·exact ⟨_,e4,trivial⟩
    ·exact ⟨_,e5,trivial⟩
   rw [bC (Nat.ne_of_lt (Heap.lt_size e))]
   exact (hf b hb).1
 done:=by
  intro X hP hw hK hc i pins s σ H E I hf st hg
  subst hP hw hK
  obtain ⟨xs,ys,q1,q2,hl⟩:=hg
  obtain ⟨us,r1,s1,z1⟩:=sqI I q1
  obtain ⟨ws,r2,s2,z2⟩:=sqI I q2
  have st':=st
  obtain ⟨t1,t2,⟨a,b,t3⟩,t4,t5⟩:=st
  have e1:=r1.length
  have e2:=r2.length
  refine zNL (I.ok.hd hc) l1 l2 st' s1 s2 (fun x y f1 f2=>?_) fun _ h' b7=>⟨rfl,zIt (t':=s.toks) I hf fun b o hb e=>?_⟩
  ·have m1:=(Array.getElem?_eq_some_iff.mp f1).1
   have m2:=(Array.getElem?_eq_some_iff.mp f2).1
   rw [List.size_toArray] at m1 m2
   omega
  ·simp only [List.mem_cons,List.not_mem_nil,or_false,not_or] at hb
   exact b7 b o hb.1 hb.2.2.1 hb.2.2.2.1 hb.2.2.2.2 e
 self:=fun _ _ _ _ _ st h=>wpAny_pyIter_zip st.1 h
section
unseal PEd PEf PTd PWd PAd PSd eX POd PGd jL PId PSx lI PTs PCd PCf
variable {X:Cx} {G:Gx} {fs:Fv} {f:Ev}
def iZp (K:PySem.W.Frag) (ta:TA):TI:=fun σ H R=>ta σ H fun vs H1=>∃ k1 k2 a1 a2 xs ys,vs=[.ref a1,.ref a2]/\SqK k1 K H1 a1 xs/\SqK k2 K H1 a2 ys/\R (Itz K k1 k2 a1 a2) H1
theorem zLO {a b:Expr} {ta:TA} {p pos:Pos} {elts:List Expr} {x1:Nat} {tp:Pos} (hg:Gl X "zip") (hm:X.mg "zip" = none) (ha:PA X [a,b] ta)
  (hs:starEach [a,b] X.env=[(false,eval a X.env),(false,eval b X.env)]:=by rfl) (hs2:starEach [b] X.env=[(false,eval b X.env)]:=by rfl):PI X (.Tuple elts x1 tp) (.Call (.Name "zip" p) [a,b] [] pos) (iZp X.K ta):=by
 intro pins s σ H R I h
 refine Call_ (lQ I hg hm boot_zip (PyProof.Rows.callWith_type1 (thn (ha pos pins s σ H _ I h) fun us s1 ⟨vs,H1,I1,r1,q1⟩=>?_) (by rw [hs,hs2]) (by rw [hs2];rfl)))
 obtain ⟨k1,k2,a1,a2,xs,ys,rfl,h1,h2,q⟩:=q1
 cases r1 with
 | cons r rr=>
  cases rr with
  | cons r' rr=>
   cases rr
   cases r
   cases r'
   obtain ⟨us,rv,p1,z1⟩:=sqI I1 h1
   obtain ⟨ws,rw_,p2,z2⟩:=sqI I1 h2
   refine zGn p1 p2 fun h' b1 b6=>wpAny_pyIter_zip (s:={ s1 with heap:=h' }) b1.1 ?_
   refine ⟨s1.heap.objs.size+4,_,_,_,H1,rfl,I1.kept (t':=s1.toks) b6,zGV k1 k2 a1 a2 s1.heap.objs.size p1.lt p2.lt,b1,fun b hb=>?_,q⟩
   have hb':s1.heap.objs.size<=b:=by
    simp only [List.mem_cons,List.not_mem_nil,or_false] at hb
    rcases hb with rfl | rfl | rfl | rfl | rfl<;>omega
   exact I1.fpOk hb' (I1.hok.fresh hb')
theorem yU:∀ (xs ys:List D) (i:Nat) (d:D),(mT xs ys)[i]?=some d->∃ a b,xs[i]?=some a/\ys[i]?=some b/\d=.tup [a,b]
 | a::r,b::q,0,d,h=>by cases h;exact ⟨a,b,rfl,rfl,rfl⟩
 | a::r,b::q,i+1,d,h=>yU r q i d h
 | [],_,i,d,h=>by cases i<;>cases h
 | a::r,[],i,d,h=>by cases i<;>cases h
theorem yH:∀ (xs ys:List D),(mT xs ys).length=min xs.length ys.length
 | a::r,b::q=>by
  have:=yH r q
  simp only [mT,List.length_cons,this]
  omega
 | [],_=>by simp [mT]
 | a::r,[]=>by simp [mT]
theorem zEV {K:PySem.W.Frag} {Hi:Hp} {k1 k2:Bool} {a1 a2:Addr} {xs ys:List V} {ds es:List D} (h1:SqK k1 K Hi a1 xs) (h2:IsDs K Hi xs ds) (h3:SqK k2 K Hi a2 ys) (h4:IsDs K Hi ys es):
  rZ K Hi (Itz K k1 k2 a1 a2) (mT ds es):=fun Hi1 H1 s1 s2 i=>by
 have g1:=qS (s1.trans s2) h1
 have g3:=qS (s1.trans s2) h3
 refine ⟨fun hl=>⟨xs,ys,g1,g3,?_⟩,fun d hd=>?_⟩
 ·rw [yH] at hl
  have e1:=h2.length
  have e2:=h4.length
  omega
 ·obtain ⟨a,b,ha,hb,rfl⟩:=yU ds es i d hd
  obtain ⟨v,hv,rv⟩:=h2.at ha
  obtain ⟨w,hw,rw_⟩:=h4.at hb
  refine ⟨⟨xs,ys,v,w,g1,g3,hv,hw⟩,fun x H2 y=>?_⟩
  obtain ⟨p,x',y',rfl,hp,rfl,y1,y2⟩:=y
  have e1:=y1 xs g1
  have e2:=y2 ys g3
  rw [hv] at e1;cases e1
  rw [hw] at e2;cases e2
  have hi:=s2.none hp
  have sm:=cV hi (.tup [v,w])
  exact ⟨upd Hi1 p (.tup [v,w]),Ext.new s2 hp,.tup (.inl (.inl aZ)) (.cons ((rv.mono s1).mono sm) (.cons ((rw_.mono s1).mono sm) .nil))⟩
theorem zNI {K:PySem.W.Frag} {H:Hp} {v:V} {d:D} {ds:List D} (h:IsD K H v d) (e:zFY d=some ds):∃ k a xs,v=.ref a/\SqK k K H a xs/\IsDs K H xs ds:=by
 cases d with
 | lst es=>cases e;obtain ⟨a,xs,rfl,h1,h2⟩:=h.lstI;exact ⟨true,a,xs,rfl,h1,h2⟩
 | tup es=>cases e;obtain ⟨a,xs,rfl,h1,h2⟩:=h.tupI;exact ⟨false,a,xs,rfl,h1,h2⟩
 | _=>cases e
theorem zIl {a b:Expr} {p pos:Pos} {elts:List Expr} {x1:Nat} {tp:Pos} (hg:Gl X "zip") (hm:X.mg "zip" = none) (ha:PAd X G [a,b] fs)
  (hs:starEach [a,b] X.env=[(false,eval a X.env),(false,eval b X.env)]:=by rfl) (hs2:starEach [b] X.env=[(false,eval b X.env)]:=by rfl):
  PId X G (.Tuple elts x1 tp) (.Call (.Name "zip" p) [a,b] [] pos) (zJX fs):=PI.wk (zLO hg hm ha hs hs2) fun σ H Q q=>by
 obtain ⟨ρ,Hi,R,ou⟩:=q
 refine zFW R ou fun vs ds Hi1 H1 e1 R1 r1 o1=>?_
 split at o1
 ·rename_i x y
  obtain ⟨v,w,rfl,h,h'⟩:=r1.two
  split at o1
  ·rename_i ds es q1 q2
   obtain ⟨k1,a1,xs,rfl,g1,g2⟩:=zNI h q1
   obtain ⟨k2,a2,ys,rfl,g3,g4⟩:=zNI h' q2
   exact ⟨k1,k2,a1,a2,xs,ys,rfl,qS R1.s g1,qS R1.s g3,o1.here R1.s _ (zEV g1 g2 g3 g4)⟩
  ·exact o1.elim
 ·exact o1.elim
end
end L3
namespace L3
open PySem PySem.Spec PyProof.Rows L2
unseal PEd PEf PTd PWd PAd PSd eX POd PGd jL PId PSx lI PTs PCd PCf
structure BlkOk2 (X:Cx) (xs:List Str) (scope:Scope):Prop where
 kind:scope.kind=.function
 cell:∀ y∈scope.names,y.2≠.cell
 loc:∀ x∈xs,scope.names.lookup x=some .local
 names:∀ y∈scope.names,y.2=.local->scope.names.lookup y.1=some .local
 fre:∀ p∈scope.names,p.2=.free->X.env.kindOf p.1=some .cell∨X.env.kindOf p.1=some .free
 oth:∀ y∈X.N,scope.names.lookup y≠some .local
def zAD (X:Cx) (xs:List Str) (scope:Scope) (C:Addr) (s₂:Shared) (H₂:Hp) (fp:List Addr):Cx:=
  { prog:=X.prog,w:=X.w,K:=X.K,mg:=X.mg,base:=X.base,A:=X.A,N:=X.N++xs,s₀:=s₂,H₀:=H₂,env:=compEnvC scope (zBt X.env scope.names []) C X.env,outer:=X.stack,stack:=X.stack,
    ex:=fp,fn:=fun _=>false,calm:=X.calm,pn:=X.pn,xe:=fun _ _=>False }
section
variable {X:Cx} {pins:List (Addr×Obj)} {σ:St} {H:Hp} {s₂:Shared} {xs:List Str} {scope:Scope} {fp:List Addr} {D C:Addr} {h₁:Heap}
theorem BlkOk2.cl (B:BlkOk2 X xs scope) (I:Inv X pins σ H s₂):∀ p∈scope.names,p.2=.free->∃ c,X.env.cells.lookup p.1=some c:=fun p hp e=>I.ok.has p.1 (B.fre p hp e)
theorem zKb (I:Inv X pins σ H s₂) (B:BlkOk2 X xs scope) (hfp:∀ b∈fp,qJ X pins H b) (hfl:∀ b∈fp,b < s₂.heap.objs.size) (hD:s₂.heap.objs.size<=D) (hC:s₂.heap.objs.size<=C) (hDC:D≠C)
  (old:∀ b o,s₂.heap.get? b=some o->h₁.get? b=some o) {n:Nat} (hacc:h₁.get? D=some { cls:=.type "list", data:=.seq ([]:List Value).toArray n }) {m:Str->Option Value} (hns:h₁.Ns C m) (t:Nat):
  Inv (zAD X xs scope C s₂ H fp) pins (σ++xs.map fun _=>none) (upd H D (.lst [])) { s₂ with heap:=h₁,toks:=t }:=by
 have sub:=sL scope.names [] (B.cl I) (fun y c e=>nomatch e)
 have old_lt:∀ {b:Addr} {o:Obj},s₂.heap.get? b=some o->b≠D/\b≠C:=fun e=>⟨Nat.ne_of_lt (Nat.lt_of_lt_of_le (Heap.lt_size e) hD),Nat.ne_of_lt (Nat.lt_of_lt_of_le (Heap.lt_size e) hC)⟩
 have free:∀ {b:Addr},b≠D->H b=none->upd H D (.lst []) b=none:=fun n e=>by rw [bC n];exact e
 refine ⟨⟨I.ok.mod,B.kind,I.ok.glob,I.ok.blt,hC,fun y z c e1 e2=>I.ok.inj y z c (sub y c e1) (sub z c e2),fun y hy=>?_,fun y c e=>(nomatch e),I.ok.hd,I.ok.frames,.inl rfl,fun b hb=>⟨Nat.ne_of_lt (Nat.lt_of_lt_of_le (hfl b hb) hC),fun y c e=>(hfp b hb).2.2.2.2.1 y c (sub y c e)⟩,
  I.bs,Nat.le_trans I.ok.bsz I.sz,fun b o e hb=>?_,fun b hb z=>?_,I.stack,I.stkFree⟩,rfl,I.bare,Un.laid old hD (I.hok.fresh hD),⟨m,hns,fun i y v e1 e2 e3=>?_⟩,fun y c e=>?_,free (Ne.symm hDC) (I.hok.fresh hC),fun y c e=>?_,fun p hp=>?_,I.hok.laid old hD ⟨Nat.zero_le _,[],n,.nil,hacc⟩,?_⟩
 ·have:∃ k,(k=NameKind.cell∨k=NameKind.free)/\((relabel scope X.env).names).lookup y=some k:=hy.elim (fun h=>⟨_,.inl rfl,h⟩) fun h=>⟨_,.inr rfl,h⟩
  obtain ⟨k,hk,e⟩:=this
  have e':(y,NameKind.free)∈scope.names:=by
   rcases cC e with z | ⟨_,z⟩
   ·rcases hk with rfl | rfl
    ·exact absurd rfl (B.cell _ (bQ z))
    ·exact bQ z
   ·exact bQ z
  exact rT scope.names [] y e'
 ·rcases (hfp b hb).2.2.2.1 with z | z
  ·exact I.ok.noex b o e z
  ·exact absurd (Nat.lt_of_lt_of_le (Heap.lt_size e) (Nat.le_trans I.ok.bsz z)) (Nat.lt_irrefl _)
 ·rcases List.mem_cons.mp (I.stkSub b z) with w | w
  ·exact (hfp b hb).2.1 w
  ·exact (hfp b hb).2.2.1 w
 ·
  have hi:i < σ.length:=by
   by_cases hi:i < σ.length
   ·exact hi
   ·exfalso
    rw [List.getElem?_append_right (by omega),List.getElem?_map] at e2
    cases q:xs[i - σ.length]? with
    | none=>rw [q] at e2;cases e2
    | some z=>rw [q] at e2;cases e2
  rw [List.getElem?_append_left hi] at e2
  have e1':(X.N++xs)[i]?=some y:=e1
  rw [List.getElem?_append_left (by rw [<-I.len];exact hi)] at e1'
  cases q:X.N[i]? with
  | none=>rw [q] at e1';cases e1'
  | some z=>
   rw [q] at e1'
   have hy:z=y:=Option.some.inj e1'
   have hz:z∈X.N:=List.mem_of_getElem? q
   subst hy
   have fr:(z,NameKind.free)∈scope.names:=by
    rcases e3 with h | h | h
    ·rcases cC h with h | ⟨h,_⟩
     ·exact absurd h (B.oth z hz)
     ·cases h
    ·rcases cC h with h | ⟨_,h⟩
     ·exact absurd rfl (B.cell _ (bQ h))
     ·exact bQ h
    ·rcases cC h with h | ⟨h,_⟩
     ·exact bQ h
     ·cases h
   have kd:=B.fre _ fr rfl
   obtain ⟨m0,hn0,hl⟩:=I.loc
   obtain ⟨u,ru,lk⟩:=hl i z v q e2 (kd.elim (fun h=>.inr (.inl h)) fun h=>.inr (.inr h))
   refine ⟨u,ru,.inr ⟨?_,?_⟩⟩
   ·rcases e3 with h | h | h
    ·rcases cC h with h | ⟨h,_⟩
     ·exact absurd h (B.oth z hz)
     ·cases h
    ·exact .inl h
    ·exact .inr h
   ·rcases lk with ⟨k1,_⟩ | ⟨_,c,hc,hcell⟩
    ·rcases kd with kd | kd<;>(rw [kd] at k1;cases k1)
    ·obtain ⟨c',hc'⟩:=rT (env:=X.env) scope.names [] z fr
     have:=sub z c' hc'
     rw [hc] at this
     cases this
     obtain ⟨o,ho,hd⟩:=hcell
     exact ⟨c,hc',o,old _ _ ho,hd⟩
 ·obtain ⟨v,o,ho,hd⟩:=I.cell y c (sub y c e)
  exact ⟨v,o,old _ _ ho,hd⟩
 ·obtain ⟨v,o,ho,hd⟩:=I.cell y c (sub y c e)
  exact free (old_lt ho).1 (I.freeC y c (sub y c e))
 ·obtain ⟨e,n,ne,nf,d⟩:=I.pin p hp
  refine ⟨old _ _ e,free (old_lt e).1 n,(old_lt e).2,fun z=>?_,d⟩
  rcases List.mem_cons.mp (I.stkSub _ z) with w | w
  ·exact ne w
  ·exact nf w
 ·show (σ++xs.map fun _=>none).length=(X.N++xs).length
  rw [List.length_append,List.length_append,List.length_map,I.len]
end
theorem zAO {f:Ev} {ρ:Rho} {d:D} {ds es:List D} (h:fB f ρ (d::ds)=.ok es):
  ∃ a b e es',d=.tup [a,b]/\f (ρ++[.val a,.val b])=.ok e/\fB f ρ ds=.ok es'/\es=e::es':=by
 unfold fB at h
 split at h
 ·cases ‹_=[]›
 ·rename_i a b ds' q
  cases q
  cases hf:noErr (f (ρ++[.val a,.val b])) with
  | no=>rw [hf] at h;cases h
  | err c=>rw [hf] at h;cases h
  | ok e=>
   rw [hf] at h
   cases hr:fB f ρ ds with
   | no=>simp only [Res.bind,hr] at h;cases h
   | err c=>simp only [Res.bind,hr] at h;cases h
   | ok es'=>
    simp only [Res.bind,hr] at h
    cases h
    exact ⟨a,b,e,es',rfl,wX hf,rfl,rfl⟩
 ·cases h
theorem zAv {f:Ev} {ρ:Rho} {c:Str}:∀ {ds:List D},fB f ρ ds≠.err c
 | []=>fun h=>by cases h
 | d::ds=>fun h=>by
  unfold fB at h
  split at h
  ·cases ‹_=[]›
  ·rename_i a b ds' q
   cases q
   cases hf:noErr (f (ρ++[.val a,.val b])) with
   | no=>rw [hf] at h;cases h
   | err c=>cases q:f (ρ++[.val a,.val b])<;>(rw [q] at hf;cases hf)
   | ok e=>
    rw [hf] at h
    cases hr:fB f ρ ds with
    | no=>simp only [Res.bind,hr] at h;cases h
    | err c'=>exact zAv hr
    | ok es'=>simp only [Res.bind,hr] at h;cases h
  ·cases h
section
variable {X:Cx} {G:Gx} {elt iter:Expr} {xa xb:Str} {pa pb tp pos:Pos} {x1:Nat} {scope:Scope} {it:Fv} {f:Ev} {k:Nat}
theorem zCZ (hc:X.calm=true/\TB X.K X.mg G.Bi G.B) (hr:Room k X.A) (Bk:BlkOk2 X [xa,xb] scope) (hN:(X.N++[xa,xb]).Nodup) (hi:PId X G (.Tuple [.Name xa pa,.Name xb pb] x1 tp) iter it)
  (hb:∀ (C:Addr) (s₂:Shared) (H₂:Hp) (fp:List Addr) (G':Gx),Good (zAD X [xa,xb] scope C s₂ H₂ fp) G' k->PEd (zAD X [xa,xb] scope C s₂ H₂ fp) G' elt f)
  (hs:∀ x,foldedSetIterable iter X.env x=pure x:=by intro _;rfl)
  {pins:List (Addr×Obj)} {s:Shared} {σ:St} {H Hi:Hp} {ρ:Rho} {use:Option (Value->Sem Unit)} {Q':Value->Shared->Prop} {Qa:Addr->Hp->Prop} {cpos:Pos} (I:Inv X pins σ H s) (R:jI X G Hi H σ ρ)
  (ou:Out G Hi H ((sQ it f) ρ) fun ds Hi' H'=>∀ a,zGj X.K H Hi' H' a ds->Qa a H') (hend:zNG X pins σ use Q' Qa):
  wpAny (model X.prog X.w) X.A (comprehension (.ListComp elt [⟨.Tuple [.Name xa pa,.Name xb pb] x1 tp,iter,[],0⟩] scope pos) scope X.env cpos (newList []) false (eval iter X.env) use) Q' X.xe s:=by
 refine wpAny_comprehension_free (use:=use) rfl hs (zHG (Bk.cl I)) Bk.kind Bk.names ?_
 refine thn (hi pins s σ H (fun J H2=>∃ ds Hi2,Ext Hi H Hi2 H2/\rZ X.K Hi2 J ds/\Out G Hi2 H2 (if ds.length<=16777215 then fB f ρ ds else .no) fun ds Hi' H'=>∀ a,zGj X.K H Hi' H' a ds->Qa a H') I
  ⟨ρ,Hi,R,(Out.bind ou).imp fun ds Hi2 H2 e2 o2 J gv=>⟨ds,Hi2,e2,gv,o2⟩⟩) fun v s1 h1=>thn h1 fun itv s2 h2=>?_
 obtain ⟨itA,fp,tn,J,H2,rfl,I2,T,st2,f2,ds,Hi2,e2,gv,ou2⟩:=h2
 have hlen:ds.length<=16777215:=by
  by_cases hlen:ds.length<=16777215
  ·exact hlen
  ·rw [if_neg hlen] at ou2;exact ou2.elim
 rw [if_pos hlen] at ou2
 cases hes:fB f ρ ds with
 | no=>rw [hes] at ou2;exact ou2.elim
 | err c=>exact absurd hes zAv
 | ok es=>
  rw [hes] at ou2
  have R2:jI X G Hi2 H2 σ ρ:=R.grow e2
  refine wpAny_newObj_type (wpAny_newFunctionEnv Bk.cell (by intro y hy;simp at hy) (fun h₁ hns₁ hsb₁=>?_) Bk.kind)
  dsimp only at hns₁ hsb₁ ⊢
  generalize hH2:s2.heap.push { cls:=.type "list", dict:=none,data:=.seq ([]:List Value).toArray }=HP at hns₁ hsb₁ ⊢
  have hC:HP.objs.size=s2.heap.objs.size+1:=by rw [<-hH2,Heap.size_push]
  have hDC:s2.heap.objs.size≠HP.objs.size:=by rw [hC];omega
  have ltC:∀ {b:Addr} {o:Obj},s2.heap.get? b=some o->b≠HP.objs.size:=fun e=>by rw [hC];exact Nat.ne_of_lt (Nat.lt_succ_of_lt (Heap.lt_size e))
  have old:∀ b o,s2.heap.get? b=some o->h₁.get? b=some o:=fun b o e=>hsb₁.extBut b o (ltC e) (Heap.get?_push_of_some _ (hH2 ▸ Heap.get?_push_of_some _ e))
  have hacc:h₁.get? s2.heap.objs.size=some { cls:=.type "list", data:=.seq ([]:List Value).toArray 0 }:=hsb₁.extBut _ _ hDC (Heap.get?_push_of_some _ (hH2 ▸ Heap.get?_push_size _ rfl))
  have hfl:∀ b∈fp,b < s2.heap.objs.size:=fun b hb=>by obtain ⟨o,e,_⟩:=T.obj _ _ st2 b hb;exact Heap.lt_size e
  have IE:=zKb (t:=s2.toks+([]:List (Str×Value)).length) I2 Bk f2 hfl (Nat.le_refl _) (by rw [hC];omega) hDC old hacc hns₁
  have sub:=sL scope.names [] (Bk.cl I2) (fun y c e=>nomatch e)
  have H2D:H2 s2.heap.objs.size=none:=I2.hok.fresh (Nat.le_refl _)
  have HD:H s2.heap.objs.size=none:=e2.h.none H2D
  have Hi2D:Hi2 s2.heap.objs.size=none:=e2.s.none H2D
  generalize hX:zAD X [xa,xb] scope HP.objs.size s2 H2 fp=Y at IE
  have GY:Good Y ⟨G.B,G.Bi,fun _ _=>False⟩ k:=by
   subst hX
   exact ⟨hc.1,hr,fun pins σ H s e s' _ h=>by obtain ⟨_,_,_,_,_,c,_,z⟩:=h;exact z.elim,PassesOwn.never,hc.2⟩
  have hel:=(hX ▸ hb HP.objs.size s2 H2 fp ⟨G.B,G.Bi,fun _ _=>False⟩ (hX.symm ▸ GY):PEd Y ⟨G.B,G.Bi,fun _ _=>False⟩ elt f)
  have stat:∀ {H':Hp},(∀ b∈fp,H' b=none)->∀ b∈fp,qJ Y pins H' b:=fun hn b hb=>by
   subst hX
   refine ⟨hn b hb,?_,fun z=>?_,.inl hb,fun y c e=>(f2 b hb).2.2.2.2.1 y c (sub y c e),(f2 b hb).2.2.2.2.2⟩
   ·show b≠HP.objs.size
    rw [hC];exact Nat.ne_of_lt (Nat.lt_succ_of_lt (hfl b hb))
   ·rcases List.mem_cons.mp (I2.stkSub b z) with w | w
    ·exact (f2 b hb).2.1 w
    ·exact (f2 b hb).2.2.1 w
  have YN:Y.N.Nodup:=by subst hX;exact hN
  have Ya:Y.N[σ.length]?=some xa:=by
   subst hX
   show (X.N++[xa,xb])[σ.length]?=some xa
   rw [List.getElem?_append_right (by rw [I2.len];omega),I2.len,Nat.sub_self]
   rfl
  have Yb:Y.N[σ.length+1]?=some xb:=by
   subst hX
   show (X.N++[xa,xb])[σ.length+1]?=some xb
   rw [List.getElem?_append_right (by rw [I2.len];omega),I2.len,Nat.add_sub_cancel_left]
   rfl
  have Yla:Y.env.scope.names.lookup xa=some .local:=by subst hX;exact lookup_relabel_local (Bk.loc xa (by simp))
  have Ylb:Y.env.scope.names.lookup xb=some .local:=by subst hX;exact lookup_relabel_local (Bk.loc xb (by simp))
  have asg:PG Y (.Tuple [.Name xa pa,.Name xb pb] x1 tp) (L2.zKv Y.K 2 (L2.zFH (L2.gName σ.length) (L2.zFH (L2.gName (σ.length+1)) L2.zMf))):=
   zKW (by subst hX;exact hc.1) (zCO (zAX YN Ya (.inl Yla) (.inr Yla)) (zCO (zAX YN Yb (.inl Ylb) (.inr Ylb)) zJD))
  have Ye:Y.env=compEnvC scope (zBt X.env scope.names []) HP.objs.size X.env:=by subst hX;rfl
  have Yxe:∀ e s,¬ Y.xe e s:=by subst hX;exact fun _ _ h=>h
  have tn1:tn 0 h₁:=T.keep _ _ _ st2 fun b _ o e=>old b o e
  have dY:∀ s3:Shared,s3={ s2 with heap:=h₁,toks:=s2.toks+([]:List (Str×Value)).length }->
    codeAny (model X.prog X.w) X.A (.compLoop (.ListComp elt [⟨.Tuple [.Name xa pa,.Name xb pb] x1 tp,iter,[],0⟩] scope pos) 0 (.ref itA) (.ref s2.heap.objs.size) Y.env) (compPost (model X.prog X.w) X.A X.xe use Q' (.ref s2.heap.objs.size) HP.objs.size) s3:=by
   rintro s3 rfl
   subst hX
   have fr0:∀ b∈fp,upd H2 s2.heap.objs.size (.lst []) b=none:=fun b hb=>by
    rw [bC (Nat.ne_of_lt (hfl b hb))]
    exact (f2 b hb).1
   refine PyProof.Rows.LCp.codeAny_compLoop_pair (fun n s'=>∃ c:CW,n=ds.length - c.i/\CS (zAD X [xa,xb] scope HP.objs.size s2 H2 fp) pins σ tn fp Hi2 H2 s2.heap.objs.size 2 (fun i=>fB f ρ (ds.drop i)) es c s') ?_ ds.length
    ⟨⟨0,[none,none],_,Hi2,[],[],es⟩,rfl,⟨IE,rfl,tn1,fr0,(Ext.refl e2.s).trans (Ext.newF e2.s H2D),aZ,Hi2D,.nil,Nat.le_refl _,hes,rfl⟩⟩
   ·rintro n s3 ⟨⟨i,vv,H3,Hi3,ys,done,rest⟩,rfl,I3,wd3,st3,fr3,e3,hD3,hiD3,rd3,hl3,hr3,hes3⟩
    dsimp only at I3 wd3 st3 fr3 e3 hD3 hiD3 rd3 hl3 hr3 hes3 ⊢
    obtain ⟨v,v',rfl⟩:∃ v v',vv=[v,v']:=by
     match vv,wd3 with
     | [v,v'],_=>exact ⟨v,v',rfl⟩
    obtain ⟨w1,w2⟩:=gv Hi3 H3 e3.i e3.s i
    have lift:∀ {α:Type} {m:Sem α} {Q':α->Shared->Prop} {E:Value->Shared->Prop} {s':Shared},wpAny (model X.prog X.w) X.A m Q' (zAD X [xa,xb] scope HP.objs.size s2 H2 fp).xe s'->wpAny (model X.prog X.w) X.A m Q' E s':=fun h=>wpAny_mono h (fun _ _ z=>z) fun e s z=>(Yxe e s z).elim
    by_cases hlt:i < ds.length
    ·obtain ⟨d,hd⟩:∃ d,ds[i]?=some d:=⟨_,List.getElem?_eq_getElem hlt⟩
     obtain ⟨go,yl⟩:=w2 d hd
     have e4:ds.drop i=d::ds.drop (i+1):=by
      rw [List.getElem?_eq_getElem hlt] at hd
      cases hd
      exact List.drop_eq_getElem_cons hlt
     rw [e4] at hr3
     refine thn (T.item (zAD X [xa,xb] scope HP.objs.size s2 H2 fp) rfl rfl rfl hc.1 i pins s3 _ H3 _ I3 (stat fr3) st3 go) fun r s4 ⟨u,hru,h4⟩=>?_
     subst hru
     refine thn h4 fun _ s5 h5=>?_
     obtain ⟨xv,H5,I5,r5,y5,st5,fr5⟩:=h5
     obtain ⟨Hi5,e5,rd5⟩:=yl xv H5 y5
     have I5':=I5.pinned (stat fr5) (T.obj _ _ st5)
     obtain ⟨a,b,e,es',rfl,hf,hr4,hee⟩:=zAO hr3
     obtain ⟨pa',ps,rfl,hq,hps⟩:=rd5.tupI
     obtain ⟨va,vb,rfl,ra,rb⟩:=hps.two
     refine lift (thn (asg _ s5 _ H5 _ u (fun σ' H'=>σ'=σ++[some va,some vb]/\H'=H5) I5' r5 ⟨pa',_,rfl,bY (e3.trans e5).s hq,rfl,va,_,rfl,vb,_,rfl,rfl,?_,rfl⟩) fun _ s6 h6=>?_)
     ·rw [List.set_append_right _ _ (Nat.le_refl _),Nat.sub_self,List.set_append_right _ _ (Nat.le_succ _),Nat.succ_sub (Nat.le_refl _),Nat.sub_self];rfl
     obtain ⟨σ6,H6,I6,rfl,rfl⟩:=h6
     have E5:Ext Hi2 H2 Hi5 H6:=e3.trans e5
     have R5:jI (zAD X [xa,xb] scope HP.objs.size s2 H2 fp) ⟨G.B,G.Bi,fun _ _=>False⟩ Hi5 H6 (σ++[some va,some vb]) (ρ++[.val a,.val b]):=by
      have:=Rel.snoc (Rel.snoc (R2.grow E5) ra) rb
      rw [List.append_assoc,List.append_assoc] at this
      exact this
     obtain ⟨hD5,hiD5⟩:=e5.out hD3 hiD3
     have rd5':=rd3.mono e5.i
     have again:∀ {H8 Hi8:Hp} {ys':List V} {done' rest':List D} {s8:Shared},Inv (zAD X [xa,xb] scope HP.objs.size s2 H2 fp) (pins++sP fp s5.heap) (σ++[some va,some vb]) H8 s8->Ext Hi2 H2 Hi8 H8->H8 s2.heap.objs.size=some (.lst ys')->Hi8 s2.heap.objs.size=none->IsDs X.K Hi8 ys' done'->done'.length<=i+1->
       fB f ρ (ds.drop (i+1))=.ok rest'->es=done'++rest'->∃ m,m < ds.length - i/\∃ c:CW,m=ds.length - c.i/\CS (zAD X [xa,xb] scope HP.objs.size s2 H2 fp) pins σ tn fp Hi2 H2 s2.heap.objs.size 2 (fun i=>fB f ρ (ds.drop i)) es c s8:=fun {H8 Hi8 ys' done' rest' s8} I8 E8 a1 a2 a3 a4 a5 a6=>by
      refine ⟨ds.length - (i+1),by omega,⟨i+1,[some va,some vb],H8,Hi8,ys',done',rest'⟩,rfl,⟨I8.unpinned,rfl,T.keep _ _ _ st5 fun b hb o e=>(I8.pin (b,o) (List.mem_append_right _ (List.mem_append_right _ (eM hb e)))).1,fun b hb=>?_,E8,a1,a2,a3,a4,a5,a6⟩⟩
      obtain ⟨o,e,_⟩:=T.obj _ _ st5 b hb
      exact (I8.pin (b,o) (List.mem_append_right _ (List.mem_append_right _ (eM hb e)))).2.1
     refine lift (thn (hel _ s6 _ H6 (fun w H'=>∃ Hi',Ext Hi5 H6 Hi' H'/\IsD X.K Hi' w e) I6 ⟨_,Hi5,R5,by rw [hf];exact fun Hi' H' ee w hw=>⟨Hi',ee,hw⟩⟩) fun u8 s8 h8=>?_)
     obtain ⟨w8,H8,I8,r8,Hi8,e8,rw8⟩:=h8
     obtain ⟨hD8,hiD8⟩:=e8.out hD5 hiD5
     have rdy:IsDs X.K Hi8 ys done:=rd5'.mono e8.i
     refine lift (thn (rS (X:=(zAD X [xa,xb] scope HP.objs.size s2 H2 fp)) _ s8 _ H8 (.ref s2.heap.objs.size) [w8] (.ref s2.heap.objs.size) [u8] (fun _ H'=>H'=upd H8 s2.heap.objs.size (.lst (ys++[w8]))) I8 rfl (.cons r8 .nil) ⟨_,ys,w8,rfl,rfl,hD8,?_,rfl⟩) fun _ s9 h9=>?_)
     ·rw [rdy.length]
      exact Nat.lt_of_le_of_lt hl3 (Nat.lt_of_lt_of_le hlt (Nat.le_trans hlen (by decide)))
     ·obtain ⟨_,H9,I9,_,rfl⟩:=h9
      refine again I9 (Ext.rewrite (E5.trans e8) H2D hiD8 ⟨_,hD8⟩) aZ hiD8 (rdy.snoc rw8) (by rw [List.length_append];exact Nat.succ_le_succ hl3) hr4 ?_
      rw [hes3,hee,List.append_assoc];rfl
    ·rw [List.drop_eq_nil_of_le (by omega),fB] at hr3
     cases hr3
     refine thn (T.done (zAD X [xa,xb] scope HP.objs.size s2 H2 fp) rfl rfl rfl hc.1 i pins s3 _ H3 _ I3 (stat fr3) st3 (w1 (by omega))) fun r s4 ⟨hrn,I4⟩=>?_
     subst hrn
     obtain ⟨m4,hn4,_⟩:=I4.loc
     have fC:H3 HP.objs.size=none:=I4.free
     have nC:∀ b u,H3 b=some u->b≠HP.objs.size:=fun b u e z=>by rw [z,fC] at e;cases e
     have U4:=I4.base
     refine hend HP.objs.size s2.heap.objs.size m4 s4 H3 hn4 (fun h' hs'=>?_) (I2.fpOk (by rw [hC];omega) fC) ?_
     ·have kp:∀ b o,b≠HP.objs.size->s4.heap.get? b=some o->h'.get? b=some o:=fun b o hb e=>hs'.extBut b o hb e
      refine Inv.call' I2 (ch:=fp) I4.os ⟨fun b o e n hb hx=>kp b o (ltC e) (U4.keep b o e n hb hx),fun b o e n hb hx=>?_,U4.free,fun b o e hx=>?_,U4.tups,U4.frzs,U4.tbls⟩ (fun b u e=>?_) I4.bare (fun b hb=>⟨(f2 b hb).2.2.2.1,(f2 b hb).2.1,(f2 b hb).2.2.2.2.1,(f2 b hb).2.2.2.2.2⟩)
      ·obtain ⟨sl,q⟩:=U4.slot b o e n hb hx
       exact ⟨sl,kp b _ (ltC e) q⟩
      ·obtain ⟨o',q⟩:=U4.there b o e hx
       exact ⟨o',kp b _ (ltC e) q⟩
      ·refine (I4.hok b u e).stay (fun c v hc q=>kp c v ?_ q) (fun _ q=>q) fun _ _ q=>q
       rcases hc with z | z
       ·rw [z];exact nC b u e
       ·exact nC c _ z
     ·refine ou2 Hi3 H3 e3 _ ⟨HD,hiD3,ys,hD3,?_⟩
      rw [hes3,List.append_nil]
      exact rd3
  rw [Ye] at dY
  exact codeAny_compStart_list (dY _ rfl) (T.self _ 0 _ _ _ tn1 (dY _ rfl))
theorem zGG (hc:X.calm=true/\TB X.K X.mg G.Bi G.B) (hr:Room k X.A) (Bk:BlkOk2 X [xa,xb] scope) (hN:(X.N++[xa,xb]).Nodup) (hi:PId X G (.Tuple [.Name xa pa,.Name xb pb] x1 tp) iter it)
  (hb:∀ (C:Addr) (s₂:Shared) (H₂:Hp) (fp:List Addr) (G':Gx),Good (zAD X [xa,xb] scope C s₂ H₂ fp) G' k->PEd (zAD X [xa,xb] scope C s₂ H₂ fp) G' elt f)
  (hs:∀ x,foldedSetIterable iter X.env x=pure x:=by intro _;rfl):PEf X G (.ListComp elt [⟨.Tuple [.Name xa pa,.Name xb pb] x1 tp,iter,[],0⟩] scope pos) (sQ it f):=by
 intro pins s σ H Q I w
 obtain ⟨ρ,Hi,R,ou⟩:=w
 rw [eval_ListComp]
 refine zCZ hc hr Bk hN hi hb hs (use:=none) (Qa:=fun a H'=>Q (.ref a) H') I R ou fun C A m s4 H3 hn hI _ q=>?_
 exact ⟨m,hn,fun h' hs'=>⟨.ref A,H3,hI h' hs',rfl,q⟩⟩
def zIx (sc:Scope) (N:List Str) (xs:List Str) (scope:Scope):Bool:=
 scope.names.all (fun y=>y.2 != .cell) && xs.all (fun x=>scope.names.lookup x==some .local) && scope.names.all (fun y=>y.2 != .local || scope.names.lookup y.1==some .local)
  && scope.names.all (fun p=>p.2 != .free || (sc.names.lookup p.1==some .cell || sc.names.lookup p.1==some .free)) && N.all (fun y=>scope.names.lookup y != some .local)
theorem zJO {sc:Scope} {N xs:List Str} (hk:scope.kind=.function) (hsc:X.env.scope=sc) (hN:X.N=N) (h:zIx sc N xs scope=true):BlkOk2 X xs scope:=by
 unfold zIx at h
 simp only [Bool.and_eq_true] at h
 obtain ⟨⟨⟨⟨h1,h2⟩,h3⟩,h4⟩,h5⟩:=h
 subst hN hsc
 refine ⟨hk,fun y hy e=>?_,fun x hx=>?_,fun y hy e=>?_,fun p hp e=>?_,fun y hy e=>?_⟩
 ·have:=List.all_eq_true.mp h1 y hy
  rw [e] at this;cases this
 ·exact beq_iff_eq.mp (List.all_eq_true.mp h2 x hx)
 ·have:=List.all_eq_true.mp h3 y hy
  rw [e] at this
  simpa using this
 ·have:=List.all_eq_true.mp h4 p hp
  rw [e] at this
  have q:X.env.scope.names.lookup p.1=some .cell∨X.env.scope.names.lookup p.1=some .free:=by simpa using this
  exact q
 ·have:=List.all_eq_true.mp h5 y hy
  rw [e] at this
  cases this
theorem sS {sc:Scope} {N:List Str} (W:Good X G k) (hnd:(N++[xa,xb]).Nodup) (hk:scope.kind=.function) (hsc:X.env.scope=sc) (hN:X.N=N) (h:zIx sc N [xa,xb] scope=true) (hi:PId X G (.Tuple [.Name xa pa,.Name xb pb] x1 tp) iter it)
  (hb:∀ (C:Addr) (s₂:Shared) (H₂:Hp) (fp:List Addr) (G':Gx),Good (zAD X [xa,xb] scope C s₂ H₂ fp) G' k->PEd (zAD X [xa,xb] scope C s₂ H₂ fp) G' elt f)
  (hs:∀ x,foldedSetIterable iter X.env x=pure x:=by intro _;rfl):PEf X G (.ListComp elt [⟨.Tuple [.Name xa pa,.Name xb pb] x1 tp,iter,[],0⟩] scope pos) (sQ it f):=
 zGG ⟨W.calm,W.tb⟩ W.room (zJO hk hsc hN h) (hN ▸ hnd) hi hb hs
end
end L3
namespace L3
open PySem PySem.Spec PyProof.Rows L2
section
variable {prog:Program} {w:World} {A:Around} {E:Value->Shared->Prop} {s:Shared}
end
section
variable {X:Cx} {G:Gx} {fs:Fv} {f:Ev}
unseal PEd PEf PTd PWd PAd PSd eX POd PGd jL PId PSx lI PTs PCd PCf
end
end L3
namespace L3
open PySem PySem.Spec PyProof.Rows L2
unseal PEd PEf PTd PWd PAd PSd eX POd PGd jL PId PSx lI PTs PCd PCf
section
variable {X:Cx} {G:Gx} {f:Ev} {pos:Pos}
section
variable {o:Expr} {k:Nat} {b:Bool} {p1 p2 p3:Pos}
end
section
variable {i fo:Nat} {x y:Str} {ea eb ec ct o0 o1:Expr} {body rest:List Stmt} {a b:Fv} {cmp:Tv} {sr:Sv} {p1 p2 p3 p4 p5 p6 p7 p8 p9 p10 p11 p12 p13 p14 p15 p16:Pos} {k5 k0 k1:Nat}
end
section
variable {i j1 j2 j3:Nat} {x:Str} {tg ec c1 c2 c3 esl ev o:Expr} {b2 b3:List Stmt} {t1 t2 t3:Tv} {sl:Fv} {g:Ev} {p1 p2 p3 p4 p5 p6 p7 p8 p9:Pos}
end
end
end L3
namespace L3
open PySem PySem.Spec PyProof.Rows L2
unseal PEd PEf PTd PWd PAd PSd eX POd PGd jL PId PSx lI PTs PCd PCf
section
variable {prog:Program} {w:World} {A:Around} {E:Value->Shared->Prop} {s:Shared}
theorem vV {r:Addr} {a b c:Int} {t u v:Tok} {n:Nat} {R:List Value->Shared->Prop} (hh:A.handled=none) (hr:IsRange s.heap r a b c t u v) (hsmall:Builtin.Range.small a b c=true) (hn:Builtin.Range.rangeSize a b c=n) (hlen:n<=2^24)
  (h:∀ h' tk acc,(∀ b o,s.heap.get? b=some o->h'.get? b=some o)->s.heap.objs.size<=h'.objs.size->ItemsOf (fun i v=>∃ t,v=.int (a+i * c) t) acc n->R acc.toList { s with heap:=h',toks:=tk }):
  wpAny (model prog w) A (collect (.ref r)) R E s:=by
 unfold collect
 refine wpAny_bind (wpAny_runValue (codeAny_builtin entry_proto_collect' ?_))
 rw [Around.under_plainId PySem.F.plain_proto_collect _]
 show wpAny _ A.in1 (newList [] >>= fun l=>again (.builtin "list.__iadd__" ⟨[l,.ref r],[]⟩)) _ _ s
 refine wpAny_bind (wpAny_newObj_type ?_)
 refine wpAny_pure ⟨plainId_quiet PySem.F.plain_list_iadd _,codeAny_builtin entry_list_iadd' ?_⟩
 rw [Around.under_plainId PySem.F.plain_list_iadd _]
 have hS₁:(s.heap.push { cls:=.type "list", data:=.seq ([]:List Value).toArray }).get? s.heap.objs.size=some { cls:=.type "list", data:=.seq #[] }:=Heap.get?_push_size _ rfl
 show wpAny _ A.in1 (Builtin.List.listExtendWith (.ref s.heap.objs.size) (.ref r) (.ref s.heap.objs.size)) _ _ _
 have key:=wpAny_extend_range (prog:=prog) (w:=w) (A:=A) (s:={ s with heap:=s.heap.push { cls:=.type "list", data:=.seq ([]:List Value).toArray } })
  (R:=fun (q:Result) (s':Shared)=>∃ (h':Heap) (tk:Nat) (acc':Array Value) (c':Nat),q=.ok (.ret (.ref s.heap.objs.size))/\s'={ s with heap:=h',toks:=tk }/\
   (∀ b o,s.heap.get? b=some o->h'.get? b=some o)/\h'.get? s.heap.objs.size=some { cls:=.type "list", dict:=none,data:=.seq acc' c',slots:=#[] }/\ItemsOf (fun i v=>∃ t,v=.int (a+i * c) t) acc' n)
  hh (Heap.get?_push_of_some _ hr) hsmall hn hlen s.heap.objs.size (.ref s.heap.objs.size) 0 hS₁
  (fun h' tk acc' c' hk hS' hacc=>⟨h',tk,acc',c',rfl,rfl,fun b o e=>hk b o (Nat.ne_of_lt (Heap.lt_size e)) (Heap.get?_push_of_some _ e),hS',hacc⟩)
 refine wpAny_mono key (fun fin s' x=>?_) fun e s' x=>?_
 ·cases fin with
  | done f=>
   obtain ⟨h',tk,acc',c',e,rfl,hk,hS',hacc⟩:=x
   cases e
   show wpAny _ A (load s.heap.objs.size >>= _) _ _ _
   refine wpAny_bind (wpAny_load hS' ?_)
   exact wpAny_pure (h h' tk acc' hk (Nat.le_of_lt (Heap.lt_size hS')) hacc)
  | again c₁=>
   refine ⟨x.1,codeAny_mono x.2 fun q s₂ y=>?_⟩
   obtain ⟨h',tk,acc',c',rfl,rfl,hk,hS',hacc⟩:=y
   show wpAny _ A (load s.heap.objs.size >>= _) _ _ _
   refine wpAny_bind (wpAny_load hS' ?_)
   exact wpAny_pure (h h' tk acc' hk (Nat.le_of_lt (Heap.lt_size hS')) hacc)
 ·obtain ⟨_,_,_,_,e',_⟩:=x
  cases e'
end
section
variable {X:Cx} {pins:List (Addr×Obj)} {σ:St} {H:Hp} {s:Shared} {A:Around} {E:Value->Shared->Prop} {a kS:Addr} {vs:List Value} {kz:List Int} {keys:Array Value} {e e1:Nat} {P:PySem.Fin->Shared->Prop}
theorem nE {h':Heap} {tk:Nat} (f:qJ X pins H a) (I:Inv X pins σ H s) (sb:Heap.SameBut a s.heap h'):Inv X pins σ H { s with heap:=h',toks:=tk }:=by
 obtain ⟨f0,f1,f2,f3,f4,f5⟩:=f
 exact I.turned (fun b o hb e=>(sb.2 b hb).trans e) f0 f1 f3 f4 f5
theorem zEM {st:SortSt} (I:Inv X pins σ H s) (fa:qJ X pins H a) (fk:qJ X pins H kS) (hka:kS≠a) (nk:s.heap.get? kS=some (seqObj "list" keys e)) (na:s.heap.get? a=some (seqObj "list" #[] e1))
  (hk:IntsAre keys.toList kz) (hlen:kz.length=vs.length) (h64:vs.length < 64) (hp:(arrOf st).Perm (keys.zip vs.toArray)) (hs:SortedTo (arrOf st) (arrOf st).size) (hfl:failedOf st=none)
  (h:∀ s' out c,Inv X pins σ H s'->s'.heap.get? a=some (seqObj "list" out c)->KskOut false kz vs out.toList->P (.done (.ret .none)) s'):
  wpAny (model X.prog X.w) A (ksk_tail a false e1 (.ref kS) st) P E s:=by
 have hsz:keys.size=vs.length:=by
  have h1:=hk.length
  rw [Array.length_toList] at h1
  omega
 have hsz2:(arrOf st).size=vs.length:=by rw [hp.size_eq,Array.size_zip,hsz,List.size_toArray,Nat.min_self]
 have hout:((arrOf st).map (·.2)).size=vs.length:=by rw [Array.size_map];exact hsz2
 have s1:=Heap.SameBut.update s.heap kS (Obj.mapSeq fun _=>(#[]:Array Value))
 have na1:(s.heap.update kS (Obj.mapSeq fun _=>(#[]:Array Value))).get? a=some (seqObj "list" #[] e1):=(s1.2 a hka.symm).trans na
 have s2:=Heap.SameBut.update (s.heap.update kS (Obj.mapSeq fun _=>(#[]:Array Value))) a (Obj.mapSeq fun _=>(arrOf st).map (·.2))
 obtain ⟨c2,hc2⟩:∃ c2,((s.heap.update kS (Obj.mapSeq fun _=>(#[]:Array Value))).update a (Obj.mapSeq fun _=>(arrOf st).map (·.2))).get? a=some (seqObj "list" ((arrOf st).map (·.2)) c2):=
  ⟨_,get?_update_seq na1 fun _=>(arrOf st).map (·.2)⟩
 unfold ksk_tail
 try dsimp only
 refine wpAny_bind (listUpdate_at nk rfl ?_ (by rw [hsz,sizeLine_eq];omega) (Nat.zero_le _))
 refine wpAny_bind (wpAny_letGo ?_)
 refine wpAny_bind (seqEpoch_at na1 rfl ?_)
 refine wpAny_bind (listUpdate_at na1 rfl ?_ (Nat.zero_le _) (by simp only [Bool.false_eq_true,if_false];exact Nat.le_trans (Nat.le_of_eq hout) (by rw [sizeLine_eq];omega)))
 rw [hfl]
 simp only [bne_self_eq_false,Bool.false_eq_true,if_false]
 have I1:Inv X pins σ H { s with heap:=s.heap.update kS (Obj.mapSeq fun _=>(#[]:Array Value)) }:=nE fk (tk:=s.toks) I s1
 have I2:Inv X pins σ H { s with heap:=(s.heap.update kS (Obj.mapSeq fun _=>(#[]:Array Value))).update a (Obj.mapSeq fun _=>(arrOf st).map (·.2)) }:=(by have z:=nE (tk:=s.toks) fa I1 s2;exact z)
 exact wpAny_pure (h _ _ c2 I2 hc2 (ksk_out (b:=false) hk hp hs))
theorem zLN (I:Inv X pins σ H s) (fa:qJ X pins H a) (fk:qJ X pins H kS) (hka:kS≠a) (nk:s.heap.get? kS=some (seqObj "list" keys e)) (na:s.heap.get? a=some (seqObj "list" #[] e1))
  (hk:IntsAre keys.toList kz) (hlen:kz.length=vs.length) (h64:vs.length < 64)
  (h:∀ s' out c,Inv X pins σ H s'->s'.heap.get? a=some (seqObj "list" out c)->KskOut false kz vs out.toList->P (.done (.ret .none)) s'):
  wpAny (model X.prog X.w) A (ksk_end a false vs.toArray e1 (.ref kS) keys) P E s:=by
 have hsz:keys.size=vs.length:=by
  have h1:=hk.length
  rw [Array.length_toList] at h1
  omega
 have hzs:(keys.zip vs.toArray).size=vs.length:=by rw [Array.size_zip,hsz,List.size_toArray,Nat.min_self]
 unfold ksk_end
 try dsimp only
 simp only [Bool.false_eq_true,if_false]
 by_cases h2:vs.toArray.size < 2
 ·rw [if_pos h2,if_pos h2]
  refine wpAny_bind (wpAny_pure ?_)
  rw [StateT.run_pure]
  refine wpAny_bind (wpAny_pure ?_)
  try dsimp only
  refine zEM (st:=SortSt.mk' general' (keys.zip vs.toArray) #[] 7 none) I fa fk hka nk na hk hlen h64 (Array.Perm.refl _) ?_ rfl h
  intro i j hij hj
  have hj2:j < (keys.zip vs.toArray).size:=hj
  rw [hzs] at hj2
  rw [List.size_toArray] at h2
  have:i=j:=by omega
  subst this
  exact Int.le_refl _
 ·rw [if_neg h2,if_neg h2]
  rw [List.size_toArray] at h2
  rw [ksk_kind hk (by rw [hsz];omega)]
  refine wpAny_bind (wpAny_pure ?_)
  refine wpAny_bind (wpAny_mono (wpS_sortRuns (a₀:=keys.zip vs.toArray) (st:=SortSt.mk' oneType' (keys.zip vs.toArray) #[] 7 none)
   (Q:=fun _ st'=>(arrOf st').Perm (keys.zip vs.toArray)/\failedOf st'=none/\SortedTo (arrOf st') (keys.zip vs.toArray).size)
   (ksk_intKeys hk) ⟨Array.Perm.refl _,rfl,rfl,rfl⟩ (by rw [hzs];omega) (by rw [hzs];exact h64) fun st' a1 a2 a3=>⟨a1,a2,a3⟩) ?_ fun _ _ e=>e)
  rintro ⟨⟨⟩,st'⟩ s' ⟨rfl,hp,hf,hs⟩
  try dsimp only
  exact zEM I fa fk hka nk na hk hlen h64 hp (by rw [hp.size_eq];exact hs) hf h
theorem zJw {f:Value} {e0:Nat} (I:Inv X pins σ H s) (fa:qJ X pins H a) (fk:qJ X pins H kS) (hka:kS≠a) (nk:s.heap.get? kS=some (seqObj "list" #[] e0)) (na:s.heap.get? a=some (seqObj "list" #[] e1))
  (hlen:kz.length=vs.length) (h64:vs.length < 64)
  (turn:∀ (i:Nat) (v:Value) (k:Int),vs[i]?=some v->kz[i]?=some k->∀ (s':Shared) (pl:List (Addr×Obj)),Inv X (pins++pl) σ H s'->
   wpAny (model X.prog X.w) A (call f [v]) (fun u s''=>(∃ t,u=.int k t)/\Inv X (pins++pl) σ H s'') (fun _ _=>False) s')
  (h:∀ s' out c,Inv X pins σ H s'->s'.heap.get? a=some (seqObj "list" out c)->KskOut false kz vs out.toList->P (.done (.ret .none)) s'):
  wpAny (model X.prog X.w) A (ksk_rest a f false vs.toArray e1 (.ref kS)) P E s:=by
 unfold ksk_rest
 refine wpAny_bind (wpAny_rule ?_)
 first
  | rw [List.forIn_toArray]
  | (rw [<-Array.forIn_toList];simp only [List.toList_toArray])
  | rw [<-Array.forIn_toList]
 refine wpAny_bind (ksk_fold (fun i s'=>∃ kA e,Inv X pins σ H s'/\s'.heap.get? kS=some (seqObj "list" kA e)/\s'.heap.get? a=some (seqObj "list" #[] e1)/\IntsAre kA.toList (kz.take i)) vs 0 s
  ⟨#[],e0,I,nk,na,by simpa using IntsAre.nil⟩ ?step ?done)
 case step=>
  rintro j x s' hx ⟨kA,e,I',nk',na',hk⟩
  simp only [Nat.zero_add] at hk ⊢
  have hj:j < vs.length:=(List.getElem?_eq_some_iff.mp hx).1
  obtain ⟨k,hkj⟩:∃ k,kz[j]?=some k:=⟨_,List.getElem?_eq_getElem (by omega)⟩
  have hz:kA.size<=vs.length:=by
   have h1:=hk.length
   rw [Array.length_toList,List.length_take] at h1
   omega
  have pin:∀ b∈[kS,a],∃ o,s'.heap.get? b=some o/\∀ v,o.data≠.cell v:=fun b hb=>by
   rcases List.mem_cons.mp hb with rfl | hb
   ·exact ⟨_,nk',fun v z=>by have z':Data.seq _ _=Data.cell v:=z;cases z'⟩
   ·rw [List.mem_singleton.mp hb];exact ⟨_,na',fun v z=>by have z':Data.seq _ _=Data.cell v:=z;cases z'⟩
  have Ip:Inv X (pins++sP [kS,a] s'.heap) σ H s':=I'.pinned (fun b hb=>by
   rcases List.mem_cons.mp hb with rfl | hb
   ·exact fk
   ·rw [List.mem_singleton.mp hb];exact fa) pin
  refine wpAny_bind (wpAny_attempt (wpAny_mono (turn j x k hx hkj s' _ Ip) (fun v s'' he=>?_) fun _ _ hF=>hF.elim))
  obtain ⟨⟨t2,rfl⟩,I2p⟩:=he
  try dsimp only
  have nk2:s''.heap.get? kS=some (seqObj "list" kA e):=(I2p.pin _ (List.mem_append_right _ (List.mem_append_right _ (eM (b:=kS) (by simp) nk')))).1
  have na2:s''.heap.get? a=some (seqObj "list" #[] e1):=(I2p.pin _ (List.mem_append_right _ (List.mem_append_right _ (eM (b:=a) (by simp) na')))).1
  have I2:Inv X pins σ H s'':=I2p.unpinned
  have s1:=Heap.SameBut.update s''.heap kS (Obj.mapSeq (·.push (.int k t2)))
  obtain ⟨c2,hc2⟩:∃ c2,(s''.heap.update kS (Obj.mapSeq (·.push (.int k t2)))).get? kS=some (seqObj "list" (kA.push (.int k t2)) c2):=⟨_,get?_update_seq nk2 (·.push (.int k t2))⟩
  have ek:kz.take (j+1)=kz.take j++[k]:=by rw [List.take_add_one,hkj];simp
  have ea:(kA.push (Value.int k t2)).toList=kA.toList++[Value.int k t2]:=by simp
  refine wpAny_bind (listUpdate_at nk2 rfl ?_ (by rw [sizeLine_eq];omega) (Nat.le_trans (Nat.le_of_eq (Array.size_push ..)) (by rw [sizeLine_eq];omega)))
  exact wpAny_pure ⟨rfl,kA.push (.int k t2),c2,nE fk (tk:=s''.toks) I2 s1,hc2,(s1.2 a hka.symm).trans na2,by rw [ea,ek];exact ksk_snoc hk⟩
 case done=>
  rintro s' ⟨kA,e,I',nk',na',hk⟩
  have hk':IntsAre kA.toList kz:=by
   have e3:kz.take (0+vs.length)=kz:=List.take_of_length_le (by omega)
   rw [e3] at hk
   exact hk
  try dsimp only
  refine wpAny_bind (listItems_at nk' rfl ?_)
  exact zLN I' fa fk hka nk' na' hk' hlen h64 h
def rO (v:Value):Nat:=(numOf v).toNat
theorem zIq {out:List Value} (hlen:kz.length=vs.length) (hv:∀ (j:Nat) (v:Value),vs[j]?=some v->∃ t,v=.int j t) (h:KskOut false kz vs out):fU kz (out.map rO)/\dG ((out.map rO).map fun i:Nat=>V.int (i:Int)) out:=by
 obtain ⟨ps,hp,ho,hs⟩:=h
 have at':∀ p,p∈kz.zip vs->∃ (j:Nat) (t:Tok),p.2=.int j t/\kz[j]?=some p.1:=fun p hm=>by
  obtain ⟨j,hj,e⟩:=List.mem_iff_getElem.mp hm
  rw [List.length_zip] at hj
  rw [List.getElem_zip] at e
  obtain ⟨t,ht⟩:=hv j (vs[j]'(by omega)) (List.getElem?_eq_getElem _)
  refine ⟨j,t,by rw [<-e];exact ht,by rw [<-e];exact List.getElem?_eq_getElem _⟩
 have n1:∀ (j:Nat) (t:Tok),rO (.int j t)=j:=fun j t=>by unfold rO;show (Int.toNat (j:Int))=j;rfl
 have hvs:vs.map rO=List.range kz.length:=by
  refine List.ext_getElem? fun j=>?_
  rw [List.getElem?_map]
  by_cases hj:j < vs.length
  ·obtain ⟨t,ht⟩:=hv j _ (List.getElem?_eq_getElem hj)
   rw [List.getElem?_eq_getElem hj,ht,List.getElem?_range (by omega)]
   show some (rO _)=_
   rw [n1]
  ·rw [List.getElem?_eq_none (by omega),List.getElem?_eq_none (by rw [List.length_range];omega)];rfl
 subst ho
 refine ⟨⟨?_,?_⟩,?_⟩
 ·have h1:((ps.map Prod.snd).map rO).Perm (((kz.zip vs).map Prod.snd).map rO):=(hp.map _).map _
  rw [List.map_snd_zip (by omega),hvs] at h1
  exact h1
 ·rw [List.map_map,List.pairwise_map]
  refine List.Pairwise.imp_of_mem (fun {p q} hm hq hr=>?_) hs
  have hr':p.1<=q.1:=by simpa using hr
  obtain ⟨i,t,e1,e2⟩:=at' p (hp.mem_iff.mp hm)
  obtain ⟨j,u,e3,e4⟩:=at' q (hp.mem_iff.mp hq)
  show kz.getD (rO p.2) 0<=kz.getD (rO q.2) 0
  rw [e1,e3,n1,n1,List.getD_eq_getElem?_getD,List.getD_eq_getElem?_getD,e2,e4]
  exact hr'
 ·have go:∀ l:List Value,(∀ v∈l,∃ (j:Nat) (t:Tok),v=.int j t)->dG ((l.map rO).map fun i:Nat=>V.int (i:Int)) l:=by
   intro l
   induction l with
   | nil=>intro _;exact .nil
   | cons v r ih=>
    intro hl
    obtain ⟨j,t,rfl⟩:=hl v (.head _)
    exact .cons ⟨t,by rw [n1]⟩ (ih fun u hu=>hl u (.tail _ hu))
  refine go _ fun v hv'=>?_
  obtain ⟨p,hm,rfl⟩:=List.mem_map.mp hv'
  obtain ⟨j,t,e1,_⟩:=at' p (hp.mem_iff.mp hm)
  exact ⟨j,t,e1⟩
theorem zEF {r q:Addr} {n:Nat} {t u v:Tok} {Q:Value->Shared->Prop} (hc:X.calm=true) (I:Inv X pins σ H s) (hr:IsRange s.heap r 0 n 1 t u v) (h64:n < 64) (hkz:kz.length=n)
  (turn:∀ (j:Nat) (tk:Tok) (k:Int),kz[j]?=some k->∀ (s':Shared) (pl:List (Addr×Obj)),Inv X (pins++pl) σ H s'->
   wpAny (model X.prog X.w) X.A.in1.in1 (call (.ref q) [.int j tk]) (fun u s''=>(∃ t,u=.int k t)/\Inv X (pins++pl) σ H s'') (fun _ _=>False) s')
  (h:∀ D s' out c π,Inv X pins σ H s'->qJ X pins H D->s.heap.objs.size<=D->s'.heap.get? D=some (seqObj "list" out c)->fU kz π->dG (π.map fun i:Nat=>V.int (i:Int)) out.toList->Q (.ref D) s'):
  wpAny (model X.prog X.w) X.A (call (.builtin "sorted") [.ref r] [(Str.ofString "key", .ref q)]) Q E s:=by
 refine call_function_entry_kw kind_sorted plain_sorted entry_sorted (ksk_s1 _ _) ?_
 unfold Builtin.«sorted»
 refine wpAny_bind (m:=checkCount "sorted" 1 1 _) (wpAny_pure ?_)
 refine wpAny_bind (vV (n:=n) (A:=X.A.in1) (I.ok.hd hc) hr (small_one (by omega) (by omega) (by omega) (by omega)) (by rw [rangeSize_one];split<;>omega) (by omega) fun h1 tk acc hk hsz hacc=>?_)
 have hl:acc.toList.length=n:=by rw [Array.length_toList];exact hacc.1
 refine wpAny_bind (wpAny_newList ?_ (by rw [hl,sizeLine_eq];omega))
 have I1:Inv X pins σ H { s with heap:=h1,toks:=tk }:=I.kept hk
 have fa:qJ X pins H h1.objs.size:=I1.fpOk (Nat.le_refl _) (I1.hok.fresh (Nat.le_refl _))
 have I2:Inv X pins σ H { s with heap:=h1.push (seqObj "list" acc.toList.toArray 0),toks:=tk }:=I1.kept (t':=tk) fun b o e=>Heap.get?_push_of_some _ e
 have hoL:(h1.push (seqObj "list" acc.toList.toArray 0)).get? h1.objs.size=some (seqObj "list" acc.toList.toArray 0):=Heap.get?_push_size _ rfl
 show wpAny _ _ _ _ _ { s with heap:=h1.push (seqObj "list" acc.toList.toArray 0),toks:=tk }
 refine wpAny_bind (wpAny_holding (wpAny_call_entry_kw slot_list_sort ⟨_,hoL,rfl⟩ entry_list_sort ?body (ksk_l1 _ _)))
 case body=>
  show wpAny (model X.prog X.w) X.A.in1.in1 (Builtin.«list.sort» ⟨[.ref h1.objs.size],[(Str.ofString "key", .ref q)]⟩) _ _ _
  rw [ksk_t1]
  have s3:=Heap.SameBut.update (h1.push (seqObj "list" acc.toList.toArray 0)) h1.objs.size (Obj.mapSeq fun _=>(#[]:Array Value))
  obtain ⟨e1,ho1⟩:∃ e1,((h1.push (seqObj "list" acc.toList.toArray 0)).update h1.objs.size (Obj.mapSeq fun _=>(#[]:Array Value))).get? h1.objs.size=some (seqObj "list" #[] e1):=⟨_,get?_update_seq hoL fun _=>#[]⟩
  have I3:Inv X pins σ H { s with heap:=(h1.push (seqObj "list" acc.toList.toArray 0)).update h1.objs.size (Obj.mapSeq fun _=>(#[]:Array Value)),toks:=tk }:=(by have z:=nE (tk:=tk) fa I2 s3;exact z)
  generalize hg3:(h1.push (seqObj "list" acc.toList.toArray 0)).update h1.objs.size (Obj.mapSeq fun _=>(#[]:Array Value))=h3 at s3 ho1 I3
  unfold ksk_tree
  refine wpAny_bind (listItems_at hoL rfl ?_)
  refine wpAny_bind (listUpdate_at hoL rfl ?_ (by rw [List.size_toArray,sizeLine_eq];omega) (Nat.zero_le _))
  show wpAny _ _ _ _ _ { s with heap:=(h1.push (seqObj "list" acc.toList.toArray 0)).update h1.objs.size (Obj.mapSeq fun _=>(#[]:Array Value)),toks:=tk }
  rw [hg3]
  refine wpAny_bind (seqEpoch_at ho1 rfl ?_)
  refine wpAny_bind (wpAny_newTuple ?_ (by show acc.toList.toArray.toList.length<=_;rw [sizeLine_eq,List.toList_toArray];omega))
  refine wpAny_bind (wpAny_newList ?_ (Nat.zero_le _))
  refine wpAny_holding ?_
  have I4:Inv X pins σ H { s with heap:=h3.push (seqObj "tuple" acc.toList.toArray 0),toks:=tk }:=I3.kept (t':=tk) fun b o e=>Heap.get?_push_of_some _ e
  have fk:qJ X pins H (h3.push (seqObj "tuple" acc.toList.toArray 0)).objs.size:=I4.fpOk (Nat.le_refl _) (I4.hok.fresh (Nat.le_refl _))
  have I5:Inv X pins σ H { s with heap:=(h3.push (seqObj "tuple" acc.toList.toArray 0)).push (seqObj "list" #[] 0),toks:=tk }:=I4.kept (t':=tk) fun b o e=>Heap.get?_push_of_some _ e
  have ho4:(h3.push (seqObj "tuple" acc.toList.toArray 0)).get? h1.objs.size=some (seqObj "list" #[] e1):=Heap.get?_push_of_some _ ho1
  refine zJw (vs:=acc.toList) (kz:=kz) (e0:=0) I5 fa fk (Nat.ne_of_gt (Heap.lt_size ho4)) (Heap.get?_push_size _ rfl) (Heap.get?_push_of_some _ ho4) (by rw [hkz,hl]) (by rw [hl];exact h64) (fun i v' k hi hk' s' pl Ip=>?_) fun s' out c I' ho' ko=>?_
  ·obtain ⟨tk',rfl⟩:=hacc.2 i v' (by rw [<-Array.getElem?_toList];exact hi)
   have e3:(0:Int)+(i:Int) * 1=(i:Int):=by omega
   rw [e3]
   exact turn i tk' k hk' s' pl Ip
  ·obtain ⟨hπ,hV⟩:=zIq (by rw [hkz,hl]) (fun j v' hj=>by
    obtain ⟨tk',rfl⟩:=hacc.2 j v' (by rw [<-Array.getElem?_toList];exact hj)
    exact ⟨tk',by congr 1;omega⟩) ko
   exact ⟨_,rfl,wpAny_pure ⟨_,rfl,h _ s' out c _ I' fa hsz ho' hπ hV⟩⟩
end
end L3
namespace L3
open PySem PySem.Spec PyProof.Rows L2 PySem.W
unseal PEd PEf PTd PWd PAd PSd eX POd PGd jL PId PSx lI PTs PCd PCf
def zOt:CXT:=fun _ _ _ _ _ _=>False
def cxL (P:Program) (w:World) (K:PySem.W.Frag) (mg:Str->Option Value) (base:Heap) (N:List Str) (qual:Str) (scope:Scope) (f:Addr) (cd:Value) (cl:List (Str×Addr)) (A:Around) (outer:List Env) (s:Shared) (H:Hp):Cx where
 prog:=P
 w:=w
 K:=K
 mg:=mg
 base:=base
 A:=A.deeper (envX qual scope s.heap.objs.size f cd cl)
 N:=N
 s₀:=s
 H₀:=H
 env:=envX qual scope s.heap.objs.size f cd cl
 outer:=outer
 stack:=envX qual scope s.heap.objs.size f cd cl::outer
 ex:=[]
 fn:=fun _=>false
 calm:=true
 pn:=[]
 xe:=fun _ _=>False
theorem zIn {P:Program} {w:World} {K:PySem.W.Frag} {mg:Str->Option Value} {base:Heap} {N:List Str} {qual name:Str} {scope:Scope} {f c':Addr} {cl:List (Str×Addr)} {A:Around} {outer:List Env} {s:Shared} {H:Hp} {params:Arguments} {body:Expr} {pm ctv u:Value} {p:Str} {σ:St} {Q:VK} {E:XK} {t:TE}
  (hd:A.handled=none) (hdp:A.depth < recursionLimit) (e0:Env0 P w K mg base A outer s H) (ho:s.heap.get? f=some (kla_obj name qual params body scope cl pm c' ctv)) (hcd:s.heap.CodeRec (.ref c') qual)
  (hbind:bindArgs (kla_fn name qual params body scope cl pm (.ref c') ctv) ⟨[u],[]⟩=pure [(p,u)]) (hloc:scope.names.lookup p=some .local)
  (hco:scope.isCoroutine=false) (hgen:scope.isGenerator=false) (hk:scope.kind=.function) (hcell:∀ x∈scope.names,x.2≠.cell)
  (hfree:∀ x,scope.names.lookup x=some .free->∃ c,cl.lookup x=some c) (hinj:∀ x y c,cl.lookup x=some c->cl.lookup y=some c->x=y)
  (hcl:∀ x c,cl.lookup x=some c->(∃ v,s.heap.IsCell c v)/\H c=none) (hlen:σ.length=N.length)
  (hσ:∀ (i:Nat) (x:Str) (v:V),N[i]?=some x->σ[i]?=some (some v)->(x=p/\cY v u)∨(scope.names.lookup x=some .free/\∃ c u',cl.lookup x=some c/\s.heap.IsCell c (some u')/\cY v u'))
  (hb:PE (cxL P w K mg base N qual scope f (.ref c') cl A outer s H) body t) (hq:t σ H Q):
  codeAny (model P w) A (.call (.ref f) ⟨[u],[]⟩) (CR zOt outer P w H s Q E) s:=by
 have lim:s.heap.NoLimit:=e0.mod.nolimit.keeps fun b o e=>(e0.bs b o e).1
 refine kla_callFunE hdp ho rfl hco hgen rfl hcd ?_
 rw [hbind]
 refine wpAny_pure (wpAny_newFunctionEnv hcell (fun y hy=>by rw [List.mem_singleton.mp hy];exact hloc) (fun h₁ hns hsb=>⟨lim.fresh _ hsb,?_⟩) hk)
 have hk₁:∀ b o,s.heap.get? b=some o->h₁.get? b=some o:=fun b o e=>hsb.extBut b o (Nat.ne_of_lt (Heap.lt_size e)) (Heap.get?_push_of_some _ e)
 have noA:∀ b:Addr,b∉(cxL P w K mg base N qual scope f (.ref c') cl A outer s H).ex:=fun b z=>absurd (show b∈([]:List Addr) from z) (by simp)
 have I:Inv (cxL P w K mg base N qual scope f (.ref c') cl A outer s H) [] σ H { s with heap:=h₁,toks:=s.toks+1 }:=by
  refine ⟨⟨e0.mod,hk,rfl,rfl,Nat.le_refl _,hinj,fun y hy=>?_,fun y c z _=>?_,fun _=>hd,Around.frames_deeper e0.frames,.inr ⟨rfl,rfl⟩,fun b z=>absurd z (noA b),e0.bs,e0.bsz,fun b _ _=>noA b,fun b z=>absurd z (noA b),e0.funs,e0.frf⟩,
   rfl,e0.bare,Un.kept hk₁,⟨_,hns,fun i y v h1 h2 h3=>?_⟩,fun y c h=>?_,e0.hok.fresh (Nat.le_refl _),fun y c h=>(hcl y c h).2,fun p hp=>absurd (show p∈([]:List (Addr×Obj)) from hp) (by simp),e0.hok.kept hk₁,hlen⟩
  ·have hy:scope.names.lookup y=some .cell∨scope.names.lookup y=some .free:=hy
   rcases hy with hy | hy
   ·exact absurd rfl (hcell _ (PySem.mem_of_lookup hy))
   ·exact hfree y hy
  ·cases z
  ·rcases hσ i y v h1 h2 with ⟨rfl,r⟩ | ⟨hf,c,u',h4,⟨o,h5,h6⟩,r⟩
   ·exact ⟨u,r,.inl ⟨hloc,by simp [List.lookup]⟩⟩
   ·exact ⟨u',r,.inr ⟨.inr hf,c,h4,o,hk₁ _ _ h5,h6⟩⟩
  ·obtain ⟨⟨v,o,h5,h6⟩,_⟩:=hcl y c h
   exact ⟨v,o,hk₁ _ _ h5,h6⟩
 refine kla_codeExpr (wpAny_mono (hb [] _ σ H Q I hq) (fun v s' z=>?_) fun e s' z=>False.elim z)
 obtain ⟨x,H',J,r,q⟩:=z
 exact ⟨x,H',J.os,J.bare,J.base,J.hok,r,q⟩
theorem zHn {l:List Value} {a b:Int} {c:Value} (h:TriplesOk l):TriplesOk (l++[rawInt a,rawInt b,c]):=TriplesOk_snoc a b c l h
theorem zDv {pos q:Pos} {c x:Value} (l:List Value) (h:TriplesOk l) (e:codeAmong q (l++[rawInt pos.line,rawInt pos.col,c])=some x):codeAmong q l=some x∨x=c:=by
 fun_induction TriplesOk l with
 | case1=>
  simp only [List.nil_append,codeAmong,rawInt] at e
  split at e
  ·exact .inr (Option.some.inj e).symm
  ·cases e
 | case2 a t b u y rest ih=>
  simp only [List.cons_append,codeAmong] at e ⊢
  split at e
  ·rename_i hc;rw [if_pos hc];exact .inl e
  ·rename_i hc;rw [if_neg hc];exact ih h e
 | case3 l h1 h2=>exact h.elim
def BMn (base:Heap) (mg:Str->Option Value):Prop:=∃ bm ob,mg "__builtins__" = some (.ref bm)/\bm≠builtinsNs/\base.get? bm=some ob/\ob.cls=.type "module" /\ ob.dict=some builtinsNs/\ob.data=.plain
section
variable {X:Cx} {pins:List (Addr×Obj)} {σ:St} {H:Hp} {s:Shared} {P c c':Addr}
theorem zGN {ps more:Array Value} {h':Heap} {tk:Nat} {oc:Obj} (I:Inv X pins σ H s) (hP:H P=some (.tbl ps)) (hx:Heap.ExtBut P s.heap h') (hge:s.heap.objs.size<=c') (hc:h'.get? c'=some oc) (hP':h'.get? P=some { cls:=.none,data:=.fields (ps++more) }):
  Inv X pins σ (upd (upd H P (.tbl (ps++more))) c' (.frz oc (.own 0))) { s with heap:=h',toks:=tk }:=by
 have nP:∀ {b:Addr},H b=none->b≠P:=fun e z=>by rw [z,hP] at e;cases e
 have cF:H c'=none:=I.hok.fresh hge
 have nc:∀ {b:Addr} {o:Obj},s.heap.get? b=some o->b≠c':=fun e=>Nat.ne_of_lt (Nat.lt_of_lt_of_le (Heap.lt_size e) hge)
 have hPc:P≠c':=bB hP cF
 have up:∀ {b:Addr},b≠P->b≠c'->upd (upd H P (.tbl (ps++more))) c' (.frz oc (.own 0)) b=H b:=fun h1 h2=>by rw [bC h2,bC h1]
 have upP:upd (upd H P (.tbl (ps++more))) c' (.frz oc (.own 0)) P=some (.tbl (ps++more)):=by rw [bC hPc,aZ]
 have kd:∀ {b:Addr} {o:HO},H b=some o->(∀ qs,o≠.tbl qs)->upd (upd H P (.tbl (ps++more))) c' (.frz oc (.own 0)) b=some o:=fun {b o} e hn=>by
  rw [up (fun z=>by rw [z,hP] at e;exact hn ps (Option.some.inj e).symm) (bB e cF)];exact e
 refine I.un ⟨fun b o e n _ _=>hx b o (nP n) e,fun b o e n _ _=>⟨o.slots,hx b o (nP n) e⟩,fun b o e n _=>by rw [up (nP n) (nc e)];exact n,fun b o e _=>?_,fun b xs e=>kd e fun qs z=>(by cases z),fun b o u e=>kd e fun qs z=>(by cases z),fun b qs e=>?_⟩ fun b u e=>?_
 ·by_cases hb:b=P
  ·subst hb;exact ⟨_,hP'⟩
  ·exact ⟨o,hx b o hb e⟩
 ·by_cases hb:b=P
  ·subst hb
   rw [hP] at e;cases e
   exact ⟨more,upP⟩
  ·exact ⟨#[],by rw [up hb (bB e cF),e];simp⟩
 ·by_cases h2:b=c'
  ·subst h2
   rw [aZ] at e;cases e
   exact ⟨hc,oc,hc⟩
  ·by_cases h1:b=P
   ·subst h1
    rw [upP] at e;cases e
    exact hP'
   ·rw [up h1 h2] at e
    refine (I.hok b u e).stay (fun d v hd q=>hx d v (fun z=>?_) q) (fun d q=>kd q fun qs z=>(by cases z)) fun d xs q=>kd q fun qs z=>(by cases z)
    rcases hd with rfl | hd
    ·exact h1 z
    ·rw [z,hP] at hd;cases hd
theorem zFk {ps:Array Value} {oc:Obj} {pos:Pos} {vs:Array Value} {t:Tok} (hP:H P=some (.tbl ps)) (cF:H c'=none) (hd:oc.data=.fields vs) (hv:vs[1]?=some (.str qI t)):
  Keep H (upd (upd H P (.tbl (ps++#[rawInt pos.line,rawInt pos.col,.ref c']))) c' (.frz oc (.own 0))):=by
 have hPc:P≠c':=bB hP cF
 have upP:upd (upd H P (.tbl (ps++#[rawInt pos.line,rawInt pos.col,.ref c']))) c' (.frz oc (.own 0)) P=some (.tbl (ps++#[rawInt pos.line,rawInt pos.col,.ref c'])):=by rw [bC hPc,aZ]
 have kd:∀ {b:Addr} {o:HO},H b=some o->b≠P->upd (upd H P (.tbl (ps++#[rawInt pos.line,rawInt pos.col,.ref c']))) c' (.frz oc (.own 0)) b=some o:=fun {b o} e hn=>by
  rw [bC (bB e cF),bC hn];exact e
 refine ⟨fun b o e=>?_,fun Q T=>?_⟩
 ·by_cases hb:b=P
  ·subst hb
   rw [hP] at e;cases e
   exact .inr ⟨_,_,rfl,upP⟩
  ·exact .inl (kd e hb)
 ·obtain ⟨qs,e,ht,k⟩:=T
  have old:∀ (q:Pos) (cv:Value),codeAmong q qs.toList=some cv->∃ c oc' vs t u,cv=.ref c/\upd (upd H P (.tbl (ps++#[rawInt pos.line,rawInt pos.col,.ref c']))) c' (.frz oc (.own 0)) c=some (.frz oc' u)/\oc'.data=.fields vs/\vs[1]?=some (.str qI t):=fun q cv z=>by
   obtain ⟨c,oc',vs',t',u,r1,r2,r3⟩:=k q cv z
   exact ⟨c,oc',vs',t',u,r1,kd r2 (fun w=>by rw [w,hP] at r2;cases r2),r3⟩
  by_cases hb:Q=P
  ·subst hb
   rw [hP] at e;cases e
   have el:(ps++#[rawInt pos.line,rawInt pos.col,.ref c']).toList=ps.toList++[rawInt pos.line,rawInt pos.col,.ref c']:=by simp
   refine ⟨_,upP,by rw [el];exact zHn ht,fun q cv z=>?_⟩
   rw [el] at z
   rcases zDv _ ht z with z | z
   ·exact old q cv z
   ·exact ⟨c',oc,vs,t,_,z,aZ,hd,hv⟩
  ·exact ⟨qs,kd e hb,ht,old⟩
theorem zGt {params:Arguments} {body:Expr} {scope:Scope} {pos:Pos} {clos:List (Str×Addr)} {M:Model} {A:Around} {E:Value->Shared->Prop} {Q:Value->Shared->Prop} (I:Inv X pins σ H s) (tb:yR P H) (hC:∀ h,X.K.In h->CodeHd h c P) (hcode:X.env.code=.ref c) (hq:X.env.qual ++ "<lambda>" = qI) (hB:BMn X.base X.mg)
  (hcl:closureFor scope X.env=pure clos) (hdef:defaultsOf params X.env=([],[]))
  (h:∀ f c' ctv oc vs t u H' s',Inv X pins σ H' s'->Keep H H'->(∀ b o,H b=some o->b≠P->H' b=some o)->qJ X pins H' f->s.heap.objs.size<=f->s'.heap.get? f=some (kla_obj "<lambda>" qI params body scope clos ((X.mg "__name__").getD .none) c' ctv)->
   H' c'=some (.frz oc u)->oc.data=.fields vs->vs[1]?=some (.str qI t)->Q (.ref f) s'):
  wpAny M A (eval (.Lambda params body scope pos) X.env) Q E s:=by
 obtain ⟨ps,hP,ht,hk⟩:=id tb
 have hPo:s.heap.get? P=some (tabObj ps):=I.hok P _ hP
 have hg:s.heap.Ns mainGlobals X.mg:=I.mod.glob.keeps I.bk
 have hgP:mainGlobals≠P:=fun z=>by
  obtain ⟨o,es,ep,e,_⟩:=I.mod.glob
  have:=(I.bs _ _ e).2
  rw [z,hP] at this;cases this
 have hb:s.heap.BuiltinsAt X.mg P:=by
  obtain ⟨bm,ob,b1,b2,b3,b4,b5,b6⟩:=hB
  refine ⟨bm,ob,b1,b2,fun z=>?_,fun z=>?_,(I.bs _ _ b3).1,b4,b5,b6⟩
  ·obtain ⟨o,es,ep,e,d,_⟩:=I.mod.glob
   rw [z,e] at b3;cases b3;rw [d] at b6;cases b6
  ·have:=(I.bs _ _ b3).2
   rw [z,hP] at this;cases this
 refine kla_eval hdef ?_
 rw [hq]
 cases hf:codeAmong pos ps.toList with
 | some cv=>
  obtain ⟨c',oc,vs,t,u,rfl,r1,r2,r3⟩:=hk pos cv hf
  refine kla_makeFunctionHit hcl I.ok.glob hg hcode (hC _ I.kIn) hPo ht hf hb fun ctv h' tk hkk hsz=>?_
  have I1:Inv X pins σ H { s with heap:=h',toks:=tk }:=I.kept hkk
  have I2:Inv X pins σ H { s with heap:=h'.push (kla_obj "<lambda>" qI params body scope clos ((X.mg "__name__").getD .none) c' ctv),toks:=tk }:=I1.kept (t':=tk) fun b o e=>Heap.get?_push_of_some _ e
  exact h _ c' ctv oc vs t u H _ I2 (Keep.refl _) (fun b o e _=>e) (I1.fpOk (Nat.le_refl _) (I1.hok.fresh (Nat.le_refl _))) hsz (Heap.get?_push_size _ rfl) r1 r2 r3
 | none=>
  refine kla_makeFunction hcl I.ok.glob hg hcode (hC _ I.kIn) hPo ht hf hgP hb fun c' ctv h' tk hx hge hlt hrec htb=>?_
  obtain ⟨c₂,oc,vs,t,e2,hoc,hd,hv⟩:=hrec
  cases e2
  have I1:=zGN (tk:=tk) I hP hx hge hoc htb
  have I2:=I1.kept (t':=tk) (h':=h'.push (kla_obj "<lambda>" qI params body scope clos ((X.mg "__name__").getD .none) c' ctv)) fun b o e=>Heap.get?_push_of_some _ e
  have cF:H c'=none:=I.hok.fresh hge
  exact h _ c' ctv oc vs t _ _ _ I2 (zFk hP cF hd hv) (fun b o e hb=>by rw [bC (bB e cF),bC hb];exact e) (I1.fpOk (Nat.le_refl _) (I1.hok.fresh (Nat.le_refl _))) (Nat.le_of_lt (Nat.lt_of_le_of_lt hge hlt)) (Heap.get?_push_size _ rfl) aZ hd hv
end
end L3
namespace L3
open PySem PySem.Spec PyProof.Rows L2 PySem.W
unseal PEd PEf PTd PWd PAd PSd eX POd PGd jL PId PSx lI PTs PCd PCf
theorem zM {K:PySem.W.Frag} {H:Hp}:∀ π:List Nat,IsDs K H (π.map fun i:Nat=>V.int (i:Int)) (iU π)
 | []=>.nil
 | n::ns=>.cons (.int n) (zM ns)
def zAR (p:Pos):Arguments:={ posonlyargs:=[],args:=[{ arg := "spot", annotation:=none,pos:=p }],vararg:=none,kwonlyargs:=[],kw_defaults:=[],kwarg:=none,defaults:=[] }
def jS:Scope:={ kind:=.function,names:=[(PySem.Str.ofString "spot", .local),(PySem.Str.ofString "bottom", .free),(PySem.Str.ofString "some", .free)],isGenerator:=false,isCoroutine:=false,more:=[] }
section
variable {X:Cx} {p1 p2 p3 p4 p5 p6 p7 p8 p9 pa pb pc pd pe pf pg ph pi pj:Pos}
theorem zHc {b k:Int} {a:Addr} {xs:List V} {rows:List D} {d:D} {j:Nat} {Hi H:Hp} {Q:VK} {σ:St} (hN:X.N=(["spot", "some", "bottom"]:List Str)) (hsc:X.env.scope=jS) {pz:Pos}
  (hσ:σ=[some (.int j),some (.ref a),some (.int b)]) (hq:SqL X.K Hi a xs∨SqT X.K Hi a xs) (hs:IsDs X.K Hi xs rows) (sm:Same Hi H) (hd:rows[j]?=some d) (hk:zFX b d=.ok k) (q:Q (.int k) H):
  ∃ t,PE X (.BinOp (.Subscript (.Subscript (.Name "some" p1) (.Name "spot" p2) p3) (.Constant (.int 0) 0 p4) p5) .Mult
   (.BinOp (.Name "bottom" p6) .FloorDiv (.Subscript (.Subscript (.Name "some" p7) (.Name "spot" p8) p9) (.Constant (.int 1) 0 pa) pb) pc) pz) t/\t σ H Q:=by
 have v0:PE X (.Name "spot" p2) (zBQ 0):=rD (by rw [hN];rfl) (by rw [hsc];exact .inl (by decide +kernel))
 have v0':PE X (.Name "spot" p8) (zBQ 0):=rD (by rw [hN];rfl) (by rw [hsc];exact .inl (by decide +kernel))
 have v1:PE X (.Name "some" p1) (zBQ 1):=rD (by rw [hN];rfl) (by rw [hsc];exact .inr (.inr (by decide +kernel)))
 have v1':PE X (.Name "some" p7) (zBQ 1):=rD (by rw [hN];rfl) (by rw [hsc];exact .inr (.inr (by decide +kernel)))
 have v2:PE X (.Name "bottom" p6) (zBQ 2):=rD (by rw [hN];rfl) (by rw [hsc];exact .inr (.inr (by decide +kernel)))
 refine ⟨_,zEn bR (zDb aI (zDb aI v1 v0 (fun _ _=>rfl)) aG (fun _ _=>rfl)) (zEn cX v2 (zDb aI (zDb aI v1' v0' (fun _ _=>rfl)) aG (fun _ _=>rfl))),?_⟩
 obtain ⟨t,c,rfl,h1,h2,rfl⟩:=zIW hk
 obtain ⟨v,hv,r⟩:=hs.at hd
 obtain ⟨ra,ys,rfl,h3,h4⟩:=r.tupI
 obtain ⟨u1,u2,rfl,r1,r2⟩:=h4.two
 have e1:=r1.intI
 have e2:=r2.intI
 subst e1 e2
 have S3:=bY sm h3
 subst hσ
 have row:∀ Q':VK,Q' (.ref ra) H->(zMi X.K (.ref a) (.int j) H Q'∨zMg X.K (.ref a) (.int j) H Q'):=fun Q' q'=>by
  rcases hq with hq | hq
  ·exact .inl ⟨a,xs,j,.ref ra,rfl,rfl,cQ sm hq,zBw hv,q'⟩
  ·exact .inr ⟨a,xs,j,.ref ra,rfl,rfl,bY sm hq,zBw hv,q'⟩
 refine ⟨.ref a,rfl,.int j,rfl,row _ (.inr ⟨ra,_,0,.int t,rfl,rfl,S3,rfl,?_⟩)⟩
 refine ⟨.int b,rfl,.ref a,rfl,.int j,rfl,row _ (.inr ⟨ra,_,1,.int c,rfl,rfl,S3,rfl,?_⟩)⟩
 exact ⟨b,c,rfl,rfl,h1,t,b.fdiv c,rfl,rfl,h2,q⟩
theorem zKA {a:Expr} {ta:TA} {p pos:Pos} (hg:Gl X "range") (hm:X.mg "range" = none) (ha:PA X [a] ta) (hs:starEach [a] X.env=[(false,eval a X.env)]:=by rfl):
  PE X (.Call (.Name "range" p) [a] [] pos) (fun σ H Q=>ta σ H fun vs H1=>∃ n:Nat,vs=[.int n]/\∀ r,H1 r=none->Q (.ref r) (upd H1 r (.rng 0 n))):=by
 intro pins s σ H Q I h
 refine wpAny_Call_Name_kw (lQ I hg hm boot_range (PyProof.Rows.callWith_type1 (thn (ha pos pins s σ H _ I h) fun us s1 ⟨vs,H1,I1,r1,q1⟩=>?_) hs rfl))
 obtain ⟨n,e,q⟩:=q1
 subst e
 obtain ⟨u,rfl,t,rfl⟩:=zCP r1
 refine call_range_1 ⟨.ref s1.heap.objs.size,_,I1.laid (fun b o e=>Heap.get?_push_of_some _ e) (Nat.le_refl _) ?_,rfl,q _ I1.fresh⟩
 exact ⟨_,_,_,Heap.get?_push_size _ rfl⟩
structure RankCx (X:Cx) (P c:Addr):Prop where
 calm:X.calm=true
 dp:X.A.depth < recursionLimit
 n0:X.N[0]?=some ("some" : Str)
 n1:X.N[1]?=some ("bottom" : Str)
 k0:X.env.kindOf "some" = some .cell
 k1:X.env.kindOf "bottom" = some .cell
 code:X.env.code=.ref c
 hd:∀ h,X.K.In h->CodeHd h c P
 qual:X.env.qual ++ "<lambda>" = qI
 bm:BMn X.base X.mg
 clo:∃ cs cb,closureFor jS X.env=pure [(("some" : Str),cs),(("bottom" : Str),cb)]/\X.env.cells.lookup ("some" : Str)=some cs/\X.env.cells.lookup ("bottom" : Str)=some cb
 gS:Gl X "sorted"
 mS:X.mg "sorted" = none
 gR:Gl X "range"
 mR:X.mg "range" = none
 gL:Gl X "len"
 mL:X.mg "len" = none
def zKy (X:Cx) (P:Addr):TE:=fun σ H Q=>∃ Hi a xs rows b kz,σ[0]?=some (some (.ref a))/\σ[1]?=some (some (.int b))/\(SqL X.K Hi a xs∨SqT X.K Hi a xs)/\IsDs X.K Hi xs rows/\Same Hi H/\lV b rows=.ok kz/\kz.length < 64/\yR P H/\Hi P=none/\
 ∀ π r Hi' H',fU kz π->Ext Hi H Hi' H'->zGj X.K H Hi' H' r (iU π)->Q (.ref r) H'
theorem zCx {pins:List (Addr×Obj)} {σ:St} {H:Hp} {s:Shared} {i:Nat} {x:Str} {v:V} {c:Addr} (I:Inv X pins σ H s) (hi:X.N[i]?=some x) (hv:σ[i]?=some (some v)) (hk:X.env.kindOf x=some .cell) (hc:X.env.cells.lookup x=some c):∃ u,cY v u/\s.heap.IsCell c (some u):=by
 obtain ⟨m,hn,hl⟩:=I.loc
 obtain ⟨u,r,l⟩:=hl i x v hi hv (.inr (.inl hk))
 refine ⟨u,r,?_⟩
 rcases l with ⟨z,_⟩ | ⟨_,c',z,q⟩
 ·rw [hk] at z;cases z
 ·rw [hc] at z;cases z;exact q
theorem zIg {P c:Addr} (R:RankCx X P c) {pk pl pm pn:Pos} (hs1:starEach [.Name "some" p3] X.env=(false,eval (.Name "some" p3) X.env)::starEach [] X.env:=by rfl)
  (hs2:starEach [.Call (.Name "len" p2) [.Name "some" p3] [] p4] X.env=[(false,eval (.Call (.Name "len" p2) [.Name "some" p3] [] p4) X.env)]:=by rfl)
  (hs3:starEach [.Call (.Name "range" p1) [.Call (.Name "len" p2) [.Name "some" p3] [] p4] [] p5] X.env=(false,eval (.Call (.Name "range" p1) [.Call (.Name "len" p2) [.Name "some" p3] [] p4] [] p5) X.env)::starEach [] X.env:=by rfl):
  PE X (.Call (.Name "sorted" pk) [.Call (.Name "range" p1) [.Call (.Name "len" p2) [.Name "some" p3] [] p4] [] p5] [⟨some "key", .Lambda (zAR p6) (.BinOp (.Subscript (.Subscript (.Name "some" p7) (.Name "spot" p8) p9) (.Constant (.int 0) 0 pa) pb) .Mult
   (.BinOp (.Name "bottom" pc) .FloorDiv (.Subscript (.Subscript (.Name "some" pd) (.Name "spot" pe) pf) (.Constant (.int 1) 0 pg) ph) pi) pj) jS pl,pm⟩] pn) (zKy X P):=by
 intro pins s σ H Q I h
 obtain ⟨Hi,a,xs,rows,b,kz,e0,e1,hq,hds,sm,hkz,h64,tb,hiP,q⟩:=h
 obtain ⟨hl1,hl2⟩:=xI hkz
 have hlen:xs.length=kz.length:=by rw [hds.length,hl1]
 refine wpAny_Call_Name_kw (lQ I R.gS R.mS boot_sorted ?_ (by decide) (by decide))
 have vS:PE X (.Name "some" p3) (zBQ 0):=rD R.n0 (.inr (.inl R.k0))
 have pR:=zKA (p:=p1) (pos:=p5) R.gR R.mR (jN (vU (p:=p2) (pos:=p4) aY R.gL R.mL boot_len (jN vS pX hs1) (by decide) (by decide) hs1) pX (by rw [hs2];rfl)) hs2
 refine callWith_kw (thn ((jN pR pX hs3) pn pins s σ H (fun vs H1=>∃ r,vs=[.ref r]/\H r=none/\H1=upd H r (.rng 0 kz.length)) I ?reads) fun us s1 ⟨vs,H1,I1,r1,q1⟩=>?_) (by rw [hs3];rfl) (by rw [hs3];rfl)
 case reads=>
  refine ⟨.ref a,e0,a,xs,rfl,hq.imp (cQ sm) (bY sm),xs.length,rfl,fun r hr=>⟨r,rfl,hr,by rw [hlen]⟩⟩
 obtain ⟨r,rfl,hr,rfl⟩:=q1
 obtain ⟨u,rfl,ru⟩:=zCP r1
 cases ru
 obtain ⟨cs,cb,hcl,hcs,hcb⟩:=R.clo
 have x1:Ext Hi H Hi (upd H r (.rng 0 kz.length)):=Ext.newF sm hr
 refine kws_cons (zGt I1 (x1.h.t P tb) R.hd R.code R.qual R.bm hcl rfl fun f c' ctv oc vs t u H3 s3 I3 hkeep hsame hf hfs hfo hc1 hc2 hc3=>kws_nil ?_)
 have x2:Ext Hi H Hi H3:=x1.trans ⟨Same.refl _,hkeep,fun b o e=>hsame b o (x1.s _ _ e) (fun z=>by rw [z,hiP] at e;cases e),fun b e z=>absurd e z⟩
 have hr3:H3 r=some (.rng 0 kz.length):=hkeep.at aZ
 obtain ⟨t1,t2,t3,hrg⟩:=I3.hok r _ hr3
 have I3p:Inv X (pins++[(f,kla_obj "<lambda>" qI (zAR p6) _ jS [("some", cs),("bottom", cb)] ((X.mg "__name__").getD .none) c' ctv)]) σ H3 s3:=I3.pins_of fun p hp=>by
  rcases List.mem_append.mp hp with hp | hp
  ·exact I3.pin p (List.mem_append_right _ hp)
  ·rw [List.mem_singleton.mp hp]
   exact ⟨hfo,hf.1,hf.2.1,hf.2.2.1,fun v z=>by have z':Data.func _=Data.cell v:=z;cases z'⟩
 refine zEF (kz:=kz) R.calm I3p hrg h64 rfl (fun j tk k hj s' pl Ip=>?_) fun D s' out c2 π I' fD hDs hD hπ hV=>?_
 ·obtain ⟨d,hd,hk⟩:=hl2 j k hj
  have hfo':=(Ip.pin _ (List.mem_append_right _ (List.mem_append_left _ (List.mem_append_right _ (List.mem_singleton.mpr rfl))))).1
  obtain ⟨u0,r0,ce0⟩:=zCx Ip R.n0 e0 R.k0 hcs
  obtain ⟨u1,r1,ce1⟩:=zCx Ip R.n1 e1 R.k1 hcb
  have look:∀ {x:Str} {c:Addr},List.lookup x [(("some" : Str),cs),(("bottom" : Str),cb)]=some c->(x = "some" /\ c=cs)∨(x = "bottom" /\ c=cb):=fun {x c} z=>by
   have z':=PySem.mem_of_lookup z
   rcases List.mem_cons.mp z' with z' | z'
   ·cases z';exact .inl ⟨rfl,rfl⟩
   ·cases List.mem_singleton.mp z';exact .inr ⟨rfl,rfl⟩
  have hne:cs≠cb:=fun z=>by
   have:=Ip.ok.inj _ _ _ hcs (z ▸ hcb)
   exact absurd this (by decide)
  have lam:∃ t,PE (cxL X.prog X.w X.K X.mg X.base ["spot", "some", "bottom"] qI jS f (.ref c') [("some", cs),("bottom", cb)] X.A.in1.in1 X.stack s' H3) _ t/\t [some (.int j),some (.ref a),some (.int b)] H3 (fun v H'=>v=.int k/\H'=H3):=
   zHc (p1:=p7) (p2:=p8) (p3:=p9) (p4:=pa) (p5:=pb) (p6:=pc) (p7:=pd) (p8:=pe) (p9:=pf) (pa:=pg) (pb:=ph) (pc:=pi) (pz:=pj) rfl rfl rfl hq hds x2.s hd hk ⟨rfl,rfl⟩
  obtain ⟨tt,hb,hqq⟩:=lam
  refine wpAny_call (codeAny_mono (zIn (E:=fun _ _ _=>False) (p := "spot") (Ip.ok.hd R.calm) R.dp Ip.env0.in1.in1 hfo' ⟨c',oc,vs,t,rfl,(Ip.hok c' _ hc1).1,hc2,hc3⟩ rfl (by decide +kernel) rfl rfl rfl (by decide +kernel) (fun x hx=>?_) (fun x y c z1 z2=>?_) (fun x c z=>?_) rfl (fun i x v z1 z2=>?_) hb hqq) fun res s'' hres=>?_)
  ·have hx':=PySem.mem_of_lookup hx
   rcases List.mem_cons.mp hx' with z | hx'
   ·cases z
   ·rcases List.mem_cons.mp hx' with z | hx'
    ·cases z;exact ⟨cb,rfl⟩
    ·cases List.mem_singleton.mp hx';exact ⟨cs,rfl⟩
  ·rcases look z1 with ⟨rfl,rfl⟩ | ⟨rfl,rfl⟩<;>rcases look z2 with ⟨rfl,w⟩ | ⟨rfl,w⟩
   ·rfl
   ·exact absurd w hne
   ·exact absurd w.symm hne
   ·rfl
  ·rcases look z with ⟨rfl,rfl⟩ | ⟨rfl,rfl⟩
   ·exact ⟨⟨_,ce0⟩,Ip.freeC _ _ hcs⟩
   ·exact ⟨⟨_,ce1⟩,Ip.freeC _ _ hcb⟩
  ·match i,z1,z2 with
   | 0,z1,z2=>cases z1;cases z2;exact .inl ⟨rfl,tk,rfl⟩
   | 1,z1,z2=>cases z1;cases z2;exact .inr ⟨by decide +kernel,cs,u0,rfl,ce0,r0⟩
   | 2,z1,z2=>cases z1;cases z2;exact .inr ⟨by decide +kernel,cb,u1,rfl,ce1,r1⟩
   | i+3,z1,z2=>simp at z2
  ·cases res with
   | error ev=>exact False.elim hres
   | ok fl=>
    cases fl with
    | ret u=>
     obtain ⟨v,H',J,rv,rfl,rfl⟩:=Ip.after hres
     obtain ⟨t',rfl⟩:=rv
     exact ⟨⟨t',rfl⟩,J⟩
    | next=>exact False.elim hres
    | brk=>exact False.elim hres
    | cont=>exact False.elim hres
 ·have I'':Inv X pins σ H3 s':=I'.unpinned
  obtain ⟨f0,f1,f2,f3,f4,f5⟩:=fD
  have h0:X.s₀.heap.get? D=none:=Heap.get?_none_of_le (Nat.le_trans I3.sz hDs)
  have hl:=hV.length
  have okL:jZ X.prog X.w (upd H3 D (.lst (π.map fun i:Nat=>V.int (i:Int)))) s'.heap D (.lst (π.map fun i:Nat=>V.int (i:Int))):=by
   refine ⟨?_,out.toList,c2,hV,by rw [Array.toArray_toList];exact hD⟩
   rw [List.length_map,hπ.1.length_eq,List.length_range,sizeLine_eq];omega
  have I4:=I''.track f0 h0 f1 f4 (fun p hp=>f5 p (by
   rcases List.mem_append.mp hp with hp | hp
   ·exact List.mem_append_left _ hp
   ·exact List.mem_append_right _ (List.mem_append_left _ hp))) okL
  refine ⟨.ref D,_,I4,rfl,q π D Hi _ hπ (x2.trans (Ext.newF x2.s f0)) ⟨x2.h.none f0,x2.s.none f0,_,aZ,zM π⟩⟩
end
end L3
namespace L3
open PySem PySem.Spec PyProof.Rows L2 PySem.W
unseal PEd PEf PTd PWd PAd PSd eX POd PGd jL PId PSx lI PTs PCd PCf
def spR (K:PySem.W.Frag) (mg:Str->Option Value) (kf:List D->Res (List Int)):Sp:=fun vs H Q _=>vs.length=1/\∃ Bi ds,TB K mg Bi H/\Same Bi H/\IsDs K Bi vs ds/\match kf ds with
 | .ok kz=>∀ π a Hi' H',fU kz π->Ext Bi H Hi' H'->zGj K H Hi' H' a (iU π)->Q (.ref a) H'
 | _=>False
structure CanR (P:Program) (w:World) (K:PySem.W.Frag) (mg:Str->Option Value) (base:Heap) (k:Nat) (kf:List D->Res (List Int)):Prop where
 ex:∃ f fd,FnOk P w K mg base (CX1 P w) k f fd ["some"] (spR K mg kf)/\zAe K fd ["some"] []/\PySem.W.keepIn K (.ref f)=true/\mg "ranked" = some (.ref f)
theorem CanR.mono {P:Program} {w:World} {K:PySem.W.Frag} {mg:Str->Option Value} {base:Heap} {j k:Nat} {kf:List D->Res (List Int)} (c:CanR P w K mg base j kf) (h:j<=k):CanR P w K mg base k kf:=by
 obtain ⟨f,fd,F,r⟩:=c.ex
 exact ⟨⟨f,fd,F.mono h,r⟩⟩
structure RankDef (st:Stmt):Prop where
 k0:(aK st).names.lookup ("some" : Str)=some .cell
 k1:(aK st).names.lookup ("bottom" : Str)=some .cell
 gS:(aK st).names.lookup ("sorted" : Str)=some .globalImplicit
 gR:(aK st).names.lookup ("range" : Str)=some .globalImplicit
 gL:(aK st).names.lookup ("len" : Str)=some .globalImplicit
 clo:∀ L f cdv,∃ cs cb,closureFor jS (envOfC "ranked" (aK st) L f cdv)=pure [(("some" : Str),cs),(("bottom" : Str),cb)]/\(envOfC "ranked" (aK st) L f cdv).cells.lookup ("some" : Str)=some cs/\(envOfC "ranked" (aK st) L f cdv).cells.lookup ("bottom" : Str)=some cb
section
variable {P:Program} {w:World} {K:PySem.W.Frag} {mg:Str->Option Value} {base:Heap} {st s1 s2:Stmt} {f:Addr} {fd:FuncData} {k:Nat} {sa sb:Sv} {p1 p2 p3 p4 p5 p6 p7 p8 p9 pa pb pc pd pe pf pg ph pi pj pk pl pm pn po:Pos}
theorem zII {T:Addr} (F:Fn K mg "ranked" st ["some"] f fd) (S:FnScope ["some", "bottom", "each"] ["some"] (aK st)) (D:RankDef st) (hT:nM K mg T) (hB:BMn base mg) (mS:mg "sorted" = none) (mR:mg "range" = none) (mL:mg "len" = none)
  (hbody:eU st=[s1,s2,.Return (some (.Call (.Name "sorted" pk) [.Call (.Name "range" p1) [.Call (.Name "len" p2) [.Name "some" p3] [] p4] [] p5] [⟨some "key", .Lambda (zAR p6) (.BinOp (.Subscript (.Subscript (.Name "some" p7) (.Name "spot" p8) p9) (.Constant (.int 0) 0 pa) pb) .Mult
   (.BinOp (.Name "bottom" pc) .FloorDiv (.Subscript (.Subscript (.Name "some" pd) (.Name "spot" pe) pf) (.Constant (.int 1) 0 pg) ph) pi) pj) jS pl,pm⟩] pn)) po])
  (h:∀ (cdv:Value) (A:Around) (outer:List Env) (s:Shared) (H:Hp) (E:XK) (G:Gx),Good (BX P w K mg base ["some", "bottom", "each"] "ranked" st f cdv A outer s H E) G k->zEI (BX P w K mg base ["some", "bottom", "each"] "ranked" st f cdv A outer s H E) G->
   PSd (BX P w K mg base ["some", "bottom", "each"] "ranked" st f cdv A outer s H E) G s1 sa/\PSd (BX P w K mg base ["some", "bottom", "each"] "ranked" st f cdv A outer s H E) G s2 sb):
  CanR P w K mg base (k+1) (vZ sa sb):=by
 refine ⟨f,fd,?_,F.bd,F.kp,F.mg⟩
 obtain ⟨f',oc',od',fd',osl',c,t1,t2,t3,t4⟩:=id hT
 have ef:f'=f:=by have:=t1.symm.trans F.mg;exact Value.ref.inj (Option.some.inj this)
 subst ef
 obtain ⟨oc,od,kV,doc,pm',an,cdv,ct,osl,rfl,lk,hcd⟩:=F.fn.ex
 have efd:cdv=.ref c:=by
  rw [lk] at t2
  cases t2
  exact t3
 subst efd
 refine zKX lk hcd S (fun vs H Q E h=>h.1) fun A outer s H vs Q E hr hsp=>?_
 obtain ⟨hl,Bi,ds,tb,sm,hd,hq⟩:=hsp
 have hg:=zDB (P:=P) (w:=w) (K:=K) (mg:=mg) (base:=base) (N:=["some", "bottom", "each"]) (outer:=outer) (H:=H) (Bi:=Bi) (E:=E) hr tb
 obtain ⟨h1,h2⟩:=h (.ref c) A outer s H E _ hg zCw
 have RC:RankCx (BX P w K mg base ["some", "bottom", "each"] "ranked" st f' (.ref c) A outer s H E) T c:=
  ⟨rfl,hr.depth,rfl,rfl,D.k0,D.k1,rfl,t4,by show (("ranked" : Str) ++ ".<locals>.") ++ "<lambda>" = qI;decide +kernel,hB,D.clo _ _ _,D.gS,mS,D.gR,mR,D.gL,mL⟩
 have body:∀ G,PSs (BX P w K mg base ["some", "bottom", "each"] "ranked" st f' (.ref c) A outer s H E) [s1] (tS (BX P w K mg base ["some", "bottom", "each"] "ranked" st f' (.ref c) A outer s H E) G sa)->PS (BX P w K mg base ["some", "bottom", "each"] "ranked" st f' (.ref c) A outer s H E) s1 (tS (BX P w K mg base ["some", "bottom", "each"] "ranked" st f' (.ref c) A outer s H E) G sa)->PS (BX P w K mg base ["some", "bottom", "each"] "ranked" st f' (.ref c) A outer s H E) s2 (tS (BX P w K mg base ["some", "bottom", "each"] "ranked" st f' (.ref c) A outer s H E) G sb)->
   PSs (BX P w K mg base ["some", "bottom", "each"] "ranked" st f' (.ref c) A outer s H E) (eU st) (zMO (tS (BX P w K mg base ["some", "bottom", "each"] "ranked" st f' (.ref c) A outer s H E) G sa) (zMO (tS (BX P w K mg base ["some", "bottom", "each"] "ranked" st f' (.ref c) A outer s H E) G sb) (zNM (zKy (BX P w K mg base ["some", "bottom", "each"] "ranked" st f' (.ref c) A outer s H E) T)))):=fun G _ h1 h2=>by
  rw [hbody]
  exact qM h1 (qM h2 (zBu (zCA (zIg RC))))
 refine ⟨_,body _ (zBu h1) h1 h2,?_⟩
 cases ek:vZ sa sb ds with
 | no=>rw [ek] at hq;exact hq.elim
 | err c=>rw [ek] at hq;exact hq.elim
 | ok kz=>
  rw [ek] at hq
  unfold vZ at ek
  split at ek
  case isFalse=>cases ek
  split at ek
  case h_2=>cases ek
  rename_i ρ1 e1
  split at ek
  case h_2=>cases ek
  rename_i ρ2 e2
  refine ⟨L3.start 3 ds,Bi,zAj (N:=["some", "bottom", "each"]) sm hd,?_⟩
  rw [e1]
  intro σ1 Hi1 H1 sm1 R1
  refine ⟨ρ1,Hi1,R1,?_⟩
  rw [e2]
  intro σ2 Hi2 H2 sm2 R2
  unfold zBV at ek
  split at ek
  case h_2=>cases ek
  rename_i rows b z0 z1
  split at ek
  case isFalse=>cases ek
  rename_i h64
  obtain ⟨v,q0,r0⟩:=R2.slot 0 _ z0
  obtain ⟨v1,q1,r1⟩:=R2.slot 1 _ z1
  obtain ⟨a,xs,rfl,g1,g2⟩:=r0.lstI
  have r1':=r1.intI
  subst r1'
  obtain ⟨tb2,n2⟩:=hg.tb.ext R2.ext T hT
  exact ⟨Hi2,a,xs,rows,b,kz,q0,q1,.inl g1,g2,R2.s,ek,by rw [(xI ek).1];exact h64,tb2,n2,fun π r Hi' H' hπ x nl=>hq π r Hi' H' hπ (R2.ext.trans x) ⟨R2.ext.h.none nl.1,nl.2⟩⟩
end
section
variable {X:Cx} {G:Gx} {e:Expr} {es:List Expr} {pos p:Pos} {fs:Fv} {k:Nat} {kf:List D->Res (List Int)} {tg:Expr} {body rest:List Stmt} {g:Gv} {sa sb:Sv}
def tIr (X:Cx) (G:Gx) (fs:Fv) (kf:List D->Res (List Int)):TI:=fun σ H R=>∃ ρ Hi,jI X G Hi H σ ρ/\Out G Hi H ((fs ρ).bind kf) fun kz Hi' H'=>∀ π J,fU kz π->rZ X.K Hi' J (iU π)->R J H'
theorem zJS (W:Good X G k) (c:CanR X.prog X.w X.K X.mg X.base k kf) (hkf:∀ ds c,kf ds≠.err c) (hk1:∀ ds,kf ds≠.no->ds.length=1) (hg:Gl X "ranked") (ha:PAd X G [e] fs) (he:starEach [e] X.env=(false,eval e X.env)::starEach [] X.env:=by rfl):
  PI X tg (.Call (.Name "ranked" p) [e] [] pos) (tIr X G fs kf):=by
 obtain ⟨f,fd,F,b,kp,hm⟩:=c.ex
 refine PI.wk (zJR (zBC F W.room hg hm kp b .nil W.pass ha (by decide) he rfl)) fun σ H R q=>?_
 obtain ⟨ρ,Hi,Rl,ou⟩:=q
 refine zFW Rl ou fun vs ds Hi1 H1 e1 R1 r1 o1=>?_
 rw [List.append_nil]
 have hno:kf ds≠.no:=fun z=>by rw [z] at o1;exact o1
 refine ⟨by rw [r1.length];exact hk1 ds hno,Hi1,ds,W.tb.ext R1.ext,R1.s,r1,?_⟩
 cases z:kf ds with
 | no=>exact absurd z hno
 | err c=>exact absurd z (hkf ds c)
 | ok kz=>
  rw [z] at o1
  intro π a Hi2 H2 hπ e2 n
  obtain ⟨n1,n2,xs,n3,n4⟩:=n
  have x3:=e2.hold n1 n3 n2
  refine ⟨a,rfl,⟨xs,SqL.of n3⟩,o1 _ _ x3 π _ hπ (zH (SqL.of aZ) (n4.mono (cV n2 _)))⟩
theorem zFq (W:Good X G k) (c:CanR X.prog X.w X.K X.mg X.base k kf) (hkf:∀ ds c,kf ds≠.err c) (hk1:∀ ds,kf ds≠.no->ds.length=1) (hg:Gl X "ranked") (ha:PAd X G [e] fs) (hgt:PGd X G tg g) (hge:∀ d ρ c,g d ρ≠.err c) (hb:eX X G body sa) (hr:eX X G rest sb)
  (he:starEach [e] X.env=(false,eval e X.env)::starEach [] X.env:=by rfl) {pf:Pos} (hs:∀ x,foldedSetIterable (.Call (.Name "ranked" p) [e] [] pos) X.env x=pure x:=by intro _;rfl):
  eX X G (.For tg (.Call (.Name "ranked" p) [e] [] pos) body [] pf::rest) (zFC fs kf g sa sb):=by
 refine PSs.wk (qM (zHZ W.own W.calm (zJS W c hkf hk1 hg ha he) hgt hb hs) hr) fun E σ H q=>?_
 obtain ⟨ρ,Hi,R,h⟩:=q
 refine ⟨ρ,Hi,R,mG R h fun kz Hi1 H1 _ e1 h1 π J hπ gv=>?_⟩
 have hn:mF kz (fun π=>bJ (fun ρ=>dY g sa (iU π) ρ) sb ρ)≠.no:=fun z=>by rw [z] at h1;exact h1
 rw [<-zDu hn hπ] at h1
 exact zHP hge (R.grow e1) (zLG (sa:=fun ρ=>dY g sa (iU π) ρ) h1) gv
end
end L3
namespace L3
open PySem PySem.Spec PyProof.Rows L2 PySem.W
unseal PEd PEf PTd PWd PAd PSd eX POd PGd jL PId PSx lI PTs PCd PCf
def zMa (K:PySem.W.Frag) (mg:Str->Option Value):Sp:=fun vs H Q _=>∃ (a:Addr) (ns:List Int) (Bi:Hp),vs=[.ref a]/\TB K mg Bi H/\Same Bi H/\SqL K Bi a (ns.map V.int)/\ns.length<=63/\∀ H',Q (.bl true) H'
theorem zIS {P:Program} {w:World} {K:PySem.W.Frag} {mg:Str->Option Value} {base:Heap} {k:Nat} {m:Mir} {f:Addr} {fd:FuncData} (F:FnOk P w K mg base (CX1 P w) k f fd ["script"] (spM K mg 1 m))
  (h:∀ ns:List Int,ns.length<=63->m [.lst (ns.map D.int)]=.ok (.v (.bl true))):FnOk P w K mg base (CX1 P w) k f fd ["script"] (zMa K mg):=by
 refine F.imp fun vs H Q E q=>?_
 obtain ⟨a,ns,Bi,rfl,tb,sm,hS,hl,q⟩:=q
 refine ⟨rfl,Bi,[.lst (ns.map D.int)],tb,sm,.cons (.lst hS (zX ns)) .nil,?_⟩
 rw [h ns hl]
 intro v Hi' H' e r
 rw [r.blI]
 exact q H'
theorem zGv {K:PySem.W.Frag} {mg:Str->Option Value} {h:Heap} {T T':Addr} (X:K.In h) (a:nM K mg T) (b:nM K mg T'):T'=T:=by
 obtain ⟨f,oc,od,fd,osl,c,a1,a2,a3,a4⟩:=a
 obtain ⟨f',oc',od',fd',osl',c',b1,b2,b3,b4⟩:=b
 rw [a1] at b1;cases b1
 rw [a2] at b2;cases b2
 rw [a3] at b3;cases b3
 obtain ⟨o,vs,_,_,_,_,_,_,_,e1,_,e3,e4,_⟩:=a4 h X
 obtain ⟨o',vs',_,_,_,_,_,_,_,f1,_,f3,f4,_⟩:=b4 h X
 rw [e1] at f1;cases f1
 rw [e3] at f3;cases f3
 rw [e4] at f4;cases f4
 rfl
theorem zFM {P:Program} {w:World} {K:PySem.W.Frag} {mg mb:Str->Option Value} {CX:CXT} {k:Nat} {fa a T:Addr} {fd:FuncData} {x:Str} {s₁:Shared} {vs:List Value} {ns:List Int}
  (KX:K.In s₁.heap) (hns:s₁.heap.Ns mainGlobals mg) (hb:s₁.heap.Ns builtinsNs mb) (hbb:∀ x:Str,x ≠ "__name__" -> mb x=bootBuiltins x) (hlim:s₁.heap.NoLimit) (hg:s₁.gens=#[]) (hbm:BMn s₁.heap mg) (hT:s₁.heap.get? T=some (tabObj #[])) (hKT:K.lookup T=none) (hP:nM K mg T)
  (ha:s₁.heap.get? a=some { cls:=.type "list", data:=.seq vs.toArray }) (hi:IntsAre vs ns) (hl:ns.length<=63) (hr:Room k callerA)
  (F:∀ base:Heap,K.In base->base.Ns mainGlobals mg->BMn base mg->FnOk P w K mg base CX k fa fd [x] (zMa K mg)) (hbind:∀ (s:Shared) (u:Value),BindsTo s fd ⟨[u],[]⟩ [(x,u)])
  (hCX:∀ H e s',CX [] H s₁ (fun _ _ _=>False) e s'->False):
  codeAny (model P w) callerA (.call (.ref fa) ⟨[.ref a],[]⟩) (fun r s'=>r=.ok (.ret (.bool true))/\OldK s₁.heap s'.heap/\s'.os=s₁.os/\AllBare s'.gens) s₁:=by
 have rv:=zAf hi
 have lenV:=hi.length
 have haT:a≠T:=fun z=>by rw [z,hT] at ha;cases ha
 have core:∀ Bi:Hp,zOw Bi->SqL K Bi a (ns.map V.int)->HOk P w Bi s₁.heap->(∀ b,Bi b≠none->b=a)->(Bi a≠none->K.lookup a=none)->
   codeAny (model P w) callerA (.call (.ref fa) ⟨[.ref a],[]⟩) (fun r s'=>r=.ok (.ret (.bool true))/\OldK s₁.heap s'.heap/\s'.os=s₁.os/\AllBare s'.gens) s₁:=by
  intro Bi hO hS hokB hA hK
  have hBT:Bi T=none:=by
   cases q:Bi T with
   | none=>rfl
   | some u=>exact absurd (hA T (by rw [q];simp)).symm haT
  generalize hHdef:upd Bi T (.tbl #[])=H
  have HT:H T=some (.tbl #[]):=by rw [<-hHdef,aZ]
  have Hne:∀ {b},b≠T->H b=Bi b:=fun z=>by rw [<-hHdef,bC z]
  have sm:Same Bi H:=fun b o e=>by rw [Hne (bB e hBT)];exact e
  have hok:HOk P w H s₁.heap:=fun b u e=>by
   by_cases hb:b=T
   ·subst hb;rw [HT] at e;cases e;exact hT
   ·rw [Hne hb] at e
    exact (hokB b u e).stay (fun c v _ q=>q) (fun c q=>sm _ _ q) fun c xs q=>sm _ _ q
  have only:∀ {b:Addr} {o:Obj},s₁.heap.get? b=some o->(∀ xs n,o.data≠.seq xs n)->(∀ vs,o.data≠.fields vs)->H b=none:=fun {b o} e d1 d2=>by
   by_cases hb:b=T
   ·subst hb;rw [hT] at e;cases e;exact absurd rfl (d2 #[])
   ·rw [Hne hb]
    cases q:Bi b with
    | none=>rfl
    | some u=>
     have e':b=a:=hA b (by rw [q];simp)
     subst e'
     rw [ha] at e;cases e
     exact absurd rfl (d1 _ _)
  have base_of:∀ {b:Addr} {o:Obj},s₁.heap.get? b=some o->H b=none->(zGa s₁.heap H).get? b=some o:=fun e n=>zGb e n
  have nsK:∀ {b:Addr} {m:Str->Option Value},s₁.heap.Ns b m->(zGa s₁.heap H).Ns b m:=fun {b m} ⟨o,es,ep,e,d,r⟩=>⟨o,es,ep,base_of e (only e (fun xs n z=>by rw [d] at z;cases z) (fun vs z=>by rw [d] at z;cases z)),d,r⟩
  have hKb:K.In (zGa s₁.heap H):=fun b o e=>base_of (KX b o e) (by
   by_cases hb:b=T
   ·subst hb;rw [hKT] at e;cases e
   ·rw [Hne hb]
    cases q:Bi b with
    | none=>rfl
    | some u=>
     have e':b=a:=hA b (by rw [q];simp)
     subst e'
     rw [hK (by rw [q];simp)] at e;cases e)
  have hBb:BMn (zGa s₁.heap H) mg:=by
   obtain ⟨bm,ob,b1,b2,b3,b4,b5,b6⟩:=hbm
   exact ⟨bm,ob,b1,b2,base_of b3 (only b3 (fun xs n z=>by rw [b6] at z;cases z) (fun vs z=>by rw [b6] at z;cases z)),b4,b5,b6⟩
  have hM:Mod K mg (zGa s₁.heap H):=⟨hKb,nsK hns,⟨mb,nsK hb,hbb⟩,let ⟨mc,h1,h2⟩:=hlim;⟨mc,nsK h1,h2⟩⟩
  have e0:Env0 P w K mg (zGa s₁.heap H) callerA [] s₁ H:=⟨rfl,hM,fun b o e=>zJk e,Nat.le_of_eq (zFu _ _),trivial,fun b hb=>absurd (show b∈([]:List Addr) from hb) (by simp),hok,.of_eq hg⟩
  have htb:TB K mg Bi H:=fun T' h'=>by
   have e':=zGv KX hP h'
   subst e'
   exact ⟨⟨#[],HT,trivial,fun pos cv z=>by cases z⟩,hBT⟩
  refine codeAny_mono ((F _ hKb (nsK hns) hBb).run callerA [] s₁ H ⟨[.ref a],[]⟩ [.ref a] [.ref a] (fun v _=>v=.bl true) (fun _ _ _=>False) hr e0 (hbind s₁ (.ref a)) (.cons rfl .nil) ⟨a,ns,Bi,rfl,htb,sm,hS,hl,fun _=>rfl⟩) fun r s' h=>?_
  cases r with
  | error e=>exact (hCX H e s' h).elim
  | ok fl=>
   cases fl with
   | next=>exact False.elim h
   | brk=>exact False.elim h
   | cont=>exact False.elim h
   | ret u=>
    obtain ⟨v,H',os,bare,un,hok',r',q⟩:=h
    have q':v=.bl true:=q
    subst q'
    obtain rfl:u=Value.bool true:=r'
    refine ⟨rfl,⟨fun b o e=>?_,fun b o e=>un.there b o e (by simp)⟩,os,bare⟩
    by_cases hbT:b=T
    ·subst hbT
     obtain ⟨more,z⟩:=un.tbls b _ HT
     have z2:s'.heap.get? b=some { cls:=.none,data:=.fields (#[]++more) }:=hok' b _ z
     rw [hT] at e;cases e
     obtain ⟨f,oc,od,fd',osl,c,a1,a2,a3,a4⟩:=hP
     obtain ⟨o,vs,_,_,_,_,_,_,_,e1,e2,e3,e4,_⟩:=a4 _ KX
     exact .inr (.inl ⟨⟨c,o,vs,e1,e2,e3,e4⟩,rfl,#[],more,rfl,z2⟩)
    ·refine .inl ?_
     cases q:H b with
     | none=>exact un.keep b o e q (by intro z;exact absurd (show b∈([]:List Addr) from z) (by simp)) (by simp)
     | some u=>
      rw [Hne hbT] at q
      rcases hO b with z | ⟨ob,xs,z⟩
      ·rw [q] at z;cases z
      ·have z2:=un.frzs b ob _ (by rw [Hne hbT];exact z)
       obtain ⟨e1,_⟩:=hokB b _ z
       obtain ⟨e2,_⟩:=hok' b _ z2
       rw [e] at e1;cases e1
       exact e2
 cases hk:K.lookup a with
 | some o=>
  have e:=KX a o hk
  rw [ha] at e
  cases e
  refine core (fun _=>none) (fun _=>.inl rfl) (.inr ⟨_,vs.toArray,_,hk,rfl,rfl,rfl,by rw [List.size_toArray,lenV,sizeLine_eq];omega,by simpa using rv⟩) (fun b u z=>by have z':(none:Option HO)=some u:=z;cases z') (fun b z=>absurd rfl z) fun z=>absurd rfl z
 | none=>
  refine core (fun b=>if b=a then some (.frz { cls:=.type "list", data:=.seq vs.toArray } (.lst (ns.map V.int))) else none) (fun b=>?_) (.inl (.inr ⟨{ cls:=.type "list", data:=.seq vs.toArray },if_pos rfl⟩)) (fun b u z=>?_) (fun b z=>?_) fun _=>hk
  ·by_cases hb:b=a
   ·exact .inr ⟨_,_,if_pos hb⟩
   ·exact .inl (if_neg hb)
  ·by_cases hb:b=a
   ·have z':=(if_pos hb).symm.trans z
    cases z'
    subst hb
    exact ⟨ha,by rw [List.length_map,sizeLine_eq];omega,vs,_,rv,ha⟩
   ·have z':=(if_neg hb).symm.trans z
    cases z'
  ·by_cases hb:b=a
   ·exact hb
   ·exact absurd (if_neg hb) z
theorem zMy {l:PySem.W.OpenLaw} {k:Nat} {q:Program} {loose:List Str} {XP:(Str->Option Value)->Heap->Prop} {YP:World->Heap->Prop} {d:DefRec} {K:Params->PySem.W.Frag} {T:Addr} (hn:l.most=some 63) (hdf:d.params.defaults=[]) (hr:Room k callerA)
  (hY:∀ (w:World) (h:Heap),YP w h->(K w.params).In h) (hT:∀ (w:World) (h:Heap),YP w h->h.get? T=some (tabObj #[]))
  (F:∀ (w:World) (mg:Str->Option Value) (fa:Addr) (h:Heap),(K w.params).In h->h.Ns mainGlobals mg->mg d.name=some (.ref fa)->
   (K w.params).lookup T=none/\nM (K w.params) mg T/\∃ fd:FuncData,(∀ (s:Shared) (u:Value),BindsTo s fd ⟨[u],[]⟩ [("script", u)])/\∀ base:Heap,(K w.params).In base->base.Ns mainGlobals mg->BMn base mg->FnOk l.prog w (K w.params) mg base (CX1 l.prog w) k fa fd ["script"] (zMa (K w.params) mg)):
  PySem.W.WalkO q loose XP YP l.row.toRowW d [] (fun f vs=>PySem.call f vs):=by
 refine Att.attach_call hn hdf fun w s₀ s₁ mg mb fa o pm cd doc a vs ns G Y ho hd hcd hmg hobj hints hlen hg=>?_
 have KX:=hY w _ Y
 obtain ⟨h1,h2,fd,hb,hF⟩:=F w mg fa _ KX G.T.g hmg
 exact zFM KX G.T.g G.T.b G.T.builtins G.T.nolimit hg G.T.bmain (hT w _ Y) h1 h2 hobj hints hlen hr hF hb fun _ _ _ z=>by
  obtain ⟨_,_,_,_,_,z⟩:=z
  exact z
end L3
namespace L3
open PySem PySem.Spec PyProof.Rows L2 PySem.W
unseal PEd PEf PTd PWd PAd PSd eX POd PGd jL PId PSx lI PTs PCd PCf
section
variable {X:Cx} {G:Gx} {pins:List (Addr×Obj)} {σ:St} {H Hi:Hp} {s:Shared} {ρ:Rho} {i k:Nat} {st:Stmt} {sa:Sv}
end
end L3
namespace L3
open PySem PySem.Spec PyProof.Rows L2 PySem.W
unseal PEd PEf PTd PWd PAd PSd eX POd PGd jL PId PSx lI PTs PCd PCf
section
variable {X:Cx} {G:Gx} {e a:Expr} {f g:Ev} {pos:Pos}
end
end L3
namespace L3
open PySem PySem.Spec PyProof.Rows L2 PySem.W
unseal PEd PEf PTd PWd PAd PSd eX POd PGd jL PId PSx lI PTs PCd PCf
section
variable {X:Cx} {G:Gx} {st:Stmt} {rest:List Stmt} {sa sb:Sv} {u:TS}
end
section
variable {P:Program} {w:World} {K:PySem.W.Frag} {mg:Str->Option Value} {base:Heap} {N ps:List Str} {x:Str} {st:Stmt} {f:Addr} {fd:FuncData} {k i0 i1 i2:Nat} {sv:Sv}
end
section
variable {X:Cx} {G:Gx} {e:Expr} {es:List Expr} {pos p:Pos} {fs:Fv} {k j0 j1 j2:Nat} {kf:List D->Res Tri} {x:Str} {ps:List Str} {tg:Expr}
end
end L3
namespace L3
open PySem PySem.Spec PyProof.Rows L2
unseal PEd PEf PTd PWd PAd PSd eX POd PGd jL PId PSx lI PTs PCd PCf
def Itq (K:PySem.W.Frag) (a:Addr) (n:Nat):It:=
 ⟨fun i H=>∃ xs x,SqL K H a xs/\xs.length=n/\xs.reverse[i]?=some x,fun i H x H'=>H'=H/\∀ xs,SqL K H a xs->xs.reverse[i]?=some x,fun i H=>∃ xs,SqL K H a xs/\n<=i⟩
def rix (n i:Nat):Int:=(n:Int) - 1 - ((min i n:Nat):Int)
theorem zEp {P:Program} {w:World} {K:PySem.W.Frag} {tg:Expr} (a it:Addr) (n:Nat):Turn P w K tg (Itq K a n) [it] it (fun i h=>h.IsRevIter it a (rix n i)) where
 mem:=by simp
 obj:=fun i h st b hb=>by
  have e:b=it:=by simpa using hb
  subst e
  obtain ⟨o,e,c,d⟩:=st
  exact ⟨o,e,fun v z=>by rw [d] at z;cases z⟩
 keep:=fun i h h' st k=>st.at fun o e=>k it (by simp) o e
 item:=by
  intro X hP hw hK hc i pins s σ H E I hf st hg
  subst hP hw hK
  obtain ⟨xs,x,hq,hn',hx⟩:=hg
  obtain ⟨its,rv,p,hz⟩:=I.list hq
  have hi:i < xs.length:=by
   have:=(List.getElem?_eq_some_iff.mp hx).1
   rwa [List.length_reverse] at this
  have hx':xs[n - 1 - i]?=some x:=by
   rw [List.getElem?_reverse hi,hn'] at hx
   exact hx
  obtain ⟨u,hu,ru⟩:=rv.get hx'
  obtain ⟨f0,f1,f2,f3,f4,f5⟩:=hf it (by simp)
  have st0:s.heap.IsRevIter it a ((n - 1 - i:Nat):Int):=by
   have e:rix n i=((n - 1 - i:Nat):Int):=by unfold rix;rw [Nat.min_eq_left (by omega)];omega
   rw [<-e];exact st
  refine wpAny_pyNext_rev_item (items:=its.toArray) st0 p.isList (x:=u) (by simpa using hu) fun h' st' sb=>?_
  have I1:Inv X pins σ H { s with heap:=h' }:=I.turned (t':=s.toks) (fun b o hb e=>(sb.2 b hb).trans e) f0 f1 f3 f4 f5
  obtain ⟨o,e,c,d⟩:=id st'
  have st2:h'.IsRevIter it a (rix n (i+1)):=by
   have e:rix n (i+1)=((n - 1 - i:Nat):Int) - 1:=by unfold rix;rw [Nat.min_eq_left (by omega)];omega
   rw [e];exact st'
  exact ⟨u,rfl,zDH (s:={ s with heap:=h' }) e c d (by decide) ⟨x,H,I1,ru,⟨rfl,fun ys hy=>by rw [I.list_inj hy hq];exact hx⟩,st2,fun b hb=>(hf b hb).1⟩⟩
 done:=by
  intro X hP hw hK hc i pins s σ H E I hf st hg
  subst hP hw hK
  obtain ⟨xs,hq,hx⟩:=hg
  obtain ⟨f0,f1,f2,f3,f4,f5⟩:=hf it (by simp)
  have st0:s.heap.IsRevIter it a (-1):=by
   have e:rix n i=-1:=by unfold rix;rw [Nat.min_eq_right hx];omega
   rw [<-e];exact st
  exact wpAny_pyNext_rev_end (I.ok.hd hc) st0 fun h' eb=>⟨rfl,I.turned (t':=s.toks) (fun b o hb e=>eb b o hb e) f0 f1 f3 f4 f5⟩
 self:=fun _ _ _ _ _ st h=>wpAny_pyIter_revIter st h
section
variable {X:Cx} {G:Gx} {fs:Fv} {f:Ev}
def iRw (K:PySem.W.Frag) (ta:TA):TI:=fun σ H R=>ta σ H fun vs H1=>∃ a xs,vs=[.ref a]/\SqL K H1 a xs/\R (Itq K a xs.length) H1
theorem zJo {tg a:Expr} {ta:TA} {p pos:Pos} (hg:Gl X "reversed") (hm:X.mg "reversed" = none) (ha:PA X [a] ta) (hs:starEach [a] X.env=[(false,eval a X.env)]:=by rfl):PI X tg (.Call (.Name "reversed" p) [a] [] pos) (iRw X.K ta):=by
 intro pins s σ H R I h
 refine Call_ (lQ I hg hm zCj (PyProof.Rows.callWith_type1 (thn (ha pos pins s σ H _ I h) fun us s1 ⟨vs,H1,I1,r1,q1⟩=>?_) hs rfl))
 obtain ⟨t,xs,rfl,hq,q⟩:=q1
 cases r1 with
 | cons r rr=>
  cases rr
  cases r
  obtain ⟨its,rv,pt,hz⟩:=I1.list hq
  have hl:=rv.length
  refine call_reversed_list (items:=its.toArray) pt.isList ?_
  have hR:(s1.heap.push (revObj t ((its.toArray.size:Int) - 1))).IsRevIter s1.heap.objs.size t (rix xs.length 0):=
   ⟨_,Heap.get?_push_size _ rfl,rfl,by unfold rix;rw [hl,List.size_toArray];simp [revObj]⟩
  refine wpAny_pyIter_revIter (s:={ s1 with heap:=_ }) hR ?_
  refine ⟨s1.heap.objs.size,[s1.heap.objs.size],_,_,H1,rfl,I1.kept (t':=s1.toks) fun b o e=>Heap.get?_push_of_some _ e,zEp t _ xs.length,hR,fun b hb=>?_,q⟩
  have e:b=s1.heap.objs.size:=by simpa using hb
  subst e
  exact I1.fpOk (Nat.le_refl _) (I1.hok.fresh (Nat.le_refl _))
theorem zDe {K:PySem.W.Frag} {Hi:Hp} {a:Addr} {xs:List V} {ds:List D} (h1:SqL K Hi a xs) (h2:IsDs K Hi xs ds):rZ K Hi (Itq K a xs.length) ds.reverse:=fun Hi1 H1 s1 s2 i=>by
 have h3:=cQ (s1.trans s2) h1
 have hl:=h2.length
 refine ⟨fun hl'=>⟨xs,h3,by rw [List.length_reverse] at hl';omega⟩,fun d hd=>?_⟩
 have hi:i < ds.length:=by
  have:=(List.getElem?_eq_some_iff.mp hd).1
  rwa [List.length_reverse] at this
 rw [List.getElem?_reverse hi] at hd
 obtain ⟨v,hv,r⟩:=h2.at hd
 have hv':xs.reverse[i]?=some v:=by rw [List.getElem?_reverse (by omega),hl];exact hv
 refine ⟨⟨xs,v,h3,rfl,hv'⟩,fun x H2 y=>?_⟩
 obtain ⟨e,y⟩:=y
 subst e
 have:=y xs h3
 rw [hv'] at this
 cases this
 exact ⟨Hi1,Ext.refl s2,r.mono s1⟩
theorem zLC {tg a:Expr} {p pos:Pos} (hg:Gl X "reversed") (hm:X.mg "reversed" = none) (ha:PEd X G a f) (hst:starEach [a] X.env=[(false,eval a X.env)]:=by rfl):PId X G tg (.Call (.Name "reversed" p) [a] [] pos) (zGw f):=PI.wk (zJo hg hm (jN ha pX (by rw [hst];rfl)) hst) fun σ H Q q=>by
 obtain ⟨ρ,Hi,R,ou⟩:=q
 refine zCy R ou fun v d Hi1 H1 e1 R1 r1 o1=>?_
 cases d with
 | lst ds=>
  obtain ⟨a,xs,rfl,h1,h2⟩:=r1.lstI
  exact ⟨a,xs,rfl,cQ R1.s h1,o1.here R1.s _ (zDe h1 h2)⟩
 | _=>exact o1.elim
end
end L3
theorem PySem.W.Fast.tw5709079038813823966:True:=trivial
theorem PySem.W.Fast.tw3313812887445296482:True:=trivial
theorem PySem.W.Fast.tw11668913034369375641:True:=trivial
theorem PySem.W.Fast.tw13328547329649476195:True:=trivial
theorem PySem.W.Fast.tw9116929260899207812:True:=trivial
theorem PySem.W.Fast.tw13312898032726075696:True:=trivial
theorem PySem.W.Fast.tw17357294572148936757:True:=trivial
theorem PySem.W.Fast.tw2892263250062287035:True:=trivial
theorem PySem.W.Fast.tw7800435023319193173:True:=trivial
theorem PySem.W.Fast.tw10525269316995659251:True:=trivial
theorem PySem.W.Fast.tw2569820587812408848:True:=trivial
theorem PySem.W.Fast.tw4995888964279935483:True:=trivial
theorem PySem.W.Fast.tw9691210562245698354:True:=trivial
theorem PySem.W.Fast.tw10396660034554708434:True:=trivial
theorem PySem.W.Fast.tw1555644481945749628:True:=trivial
theorem PySem.W.Fast.tw4926767896930973130:True:=trivial
theorem PySem.W.Fast.tw11257411762452711312:True:=trivial
theorem PySem.W.Fast.tw3024475838346931997:True:=trivial
theorem PySem.W.Fast.tw15615737964164322490:True:=trivial
theorem PySem.W.Fast.tw9234999350488395969:True:=trivial
theorem PySem.W.Fast.tw12929542871930051286:True:=trivial
theorem PySem.W.Fast.tw2967905811079261697:True:=trivial
theorem PySem.W.Fast.tw5388251251262555395:True:=trivial
theorem PySem.W.Fast.tw12793623296789728330:True:=trivial
theorem PySem.W.Fast.tw10573351257093011972:True:=trivial
theorem PySem.W.Fast.tw6804728719906651344:True:=trivial
theorem PySem.W.Fast.tw11244730970010787791:True:=trivial
theorem PySem.W.Fast.tw16167388872956955908:True:=trivial
theorem PySem.W.Fast.tw16324062214420442138:True:=trivial
theorem PySem.W.Fast.tw14030558744434006796:True:=trivial
theorem PySem.W.Fast.tw16918145876567417042:True:=trivial
theorem PySem.W.Fast.tw4076655243089490936:True:=trivial
theorem PySem.W.Fast.tw7731753558978931818:True:=trivial
theorem PySem.W.Fast.tw11906672620227844177:True:=trivial
theorem PySem.W.Fast.tw9095703680259197890:True:=trivial
theorem PySem.W.Fast.tw9774182153391306396:True:=trivial
theorem PySem.W.Fast.tw14997676939836608505:True:=trivial
theorem PySem.W.Fast.tw8330078871772763979:True:=trivial
theorem PySem.W.Fast.tw1669227414141432067:True:=trivial
theorem PySem.W.Fast.tw13256394773221112367:True:=trivial
theorem PySem.W.Fast.tw15212818034376344446:True:=trivial
theorem PySem.W.Fast.tw17186301904411415181:True:=trivial
theorem PySem.W.Fast.tw8638939049847585292:True:=trivial
theorem PySem.W.Fast.tw17879991925323019374:True:=trivial
theorem PySem.W.Fast.tw2762456575535562578:True:=trivial
theorem PySem.W.Fast.tw6319327614480255861:True:=trivial
theorem PySem.W.Fast.tw17506172003474937430:True:=trivial
theorem PySem.W.Fast.tw7420656230317442777:True:=trivial
theorem PySem.W.Fast.tw11193943825325156550:True:=trivial
theorem PySem.W.Fast.tw8265678092366551349:True:=trivial
theorem PySem.W.Fast.tw3458758909827770641:True:=trivial
theorem PySem.W.Fast.tw12024230316765366149:True:=trivial
theorem PySem.W.Fast.tw1449604330135618392:True:=trivial
theorem PySem.W.Fast.tw189065078948364554:True:=trivial
theorem PySem.W.Fast.tw3482475806292109621:True:=trivial
theorem PySem.W.Fast.tw2014986456444956416:True:=trivial
theorem PySem.W.Fast.tw33784450443132395:True:=trivial
theorem PySem.W.Fast.tw5947705147657136269:True:=trivial
theorem PySem.W.Fast.tw4414643827759395544:True:=trivial
theorem PySem.W.Fast.tw8351598899719671129:True:=trivial
theorem PySem.W.Fast.tw205385887497221662:True:=trivial
theorem PySem.W.Fast.tw14265126441186313278:True:=trivial
theorem PySem.W.Fast.tw5232852407871977996:True:=trivial
theorem PySem.W.Fast.tw5902838751768318086:True:=trivial
theorem PySem.W.Fast.tw6420758891008169976:True:=trivial
theorem PySem.W.Fast.tw6034585671195568340:True:=trivial
theorem PySem.W.Fast.tw9857577628091047997:True:=trivial
theorem PySem.W.Fast.tw1954933073094026387:True:=trivial
theorem PySem.W.Fast.tw6382293987388476193:True:=trivial
theorem PySem.W.Fast.tw17850579279226134866:True:=trivial
theorem PySem.W.Fast.tw14219042796716411240:True:=trivial
theorem PySem.W.Fast.tw12048965403112372995:True:=trivial
theorem PySem.W.Fast.tw7760890566517488758:True:=trivial
theorem PySem.W.Fast.tw262856383762059395:True:=trivial
theorem PySem.W.Fast.tw18104736279963612525:True:=trivial
theorem PySem.W.Fast.tw14020476068911056863:True:=trivial
theorem PySem.W.Fast.tw11602221228203783751:True:=trivial
theorem PySem.W.Fast.tw6946693649459502541:True:=trivial
theorem PySem.W.Fast.tw198646481007511674:True:=trivial
theorem PySem.W.Fast.tw7194647238043042054:True:=trivial
theorem PySem.W.Fast.tw5710873956165181387:True:=trivial
theorem PySem.W.Fast.tw1756977359193972395:True:=trivial
theorem PySem.W.Fast.tw14368603267998690867:True:=trivial
theorem PySem.W.Fast.tw11190805537602596121:True:=trivial
theorem PySem.W.Fast.tw9038919936166792686:True:=trivial
theorem PySem.W.Fast.tw17055653651284083002:True:=trivial
theorem PySem.W.Fast.tw11045346078998137762:True:=trivial
theorem PySem.W.Fast.tw6753731518012446099:True:=trivial
theorem PySem.W.Fast.tw13250923485484657718:True:=trivial
theorem PySem.W.Fast.tw1028226904549873722:True:=trivial
theorem PySem.W.Fast.tw4087698126454764116:True:=trivial
theorem PySem.W.Fast.tw13025780305371925051:True:=trivial
theorem PySem.W.Fast.tw10538217835402538258:True:=trivial
theorem PySem.W.Fast.tw15892736682321182489:True:=trivial
theorem PySem.W.Fast.tw13897180112151450226:True:=trivial
theorem PySem.W.Fast.tw3072111341501986187:True:=trivial
theorem PySem.W.Fast.tw7165950274191596359:True:=trivial
theorem PySem.W.Fast.tw12395346643088242499:True:=trivial
theorem PySem.W.Fast.tw7806170534832035703:True:=trivial
theorem PySem.W.Fast.tw14681269446661684009:True:=trivial
theorem PySem.W.Fast.tw14497371465582891099:True:=trivial
theorem PySem.W.Fast.tw2357542312338004270:True:=trivial
theorem PySem.W.Fast.tw6109467520991781233:True:=trivial
theorem PySem.W.Fast.tw12430809128739101551:True:=trivial
theorem PySem.W.Fast.tw204182456354716161:True:=trivial
theorem PySem.W.Fast.tw11264568215374268551:True:=trivial
theorem PySem.W.Fast.tw9442589618638364887:True:=trivial
theorem PySem.W.Fast.tw5415930942675649765:True:=trivial
theorem PySem.W.Fast.tw8457361146392267448:True:=trivial
theorem PySem.W.Fast.tw7826049154014147580:True:=trivial
theorem PySem.W.Fast.tw1996151488128447818:True:=trivial
theorem PySem.W.Fast.tw16756703724995111278:True:=trivial
theorem PySem.W.Fast.tw13987963718604308884:True:=trivial
theorem PySem.W.Fast.tw13908150604589562956:True:=trivial
theorem PySem.W.Fast.tw15870286920530232627:True:=trivial
theorem PySem.W.Fast.tw1280138002906819018:True:=trivial
theorem PySem.W.Fast.tw1534790962713062837:True:=trivial
theorem PySem.W.Fast.tw7641780933128516531:True:=trivial
theorem PySem.W.Fast.tw17250803202857697578:True:=trivial
theorem PySem.W.Fast.tw10997713554641665113:True:=trivial
theorem PySem.W.Fast.tw12810653508835983747:True:=trivial
theorem PySem.W.Fast.tw950801339302092531:True:=trivial
theorem PySem.W.Fast.tw8331148117071171644:True:=trivial
theorem PySem.W.Fast.tw12278123848127769428:True:=trivial
theorem PySem.W.Fast.tw18421814199021250595:True:=trivial
theorem PySem.W.Fast.tw10579102530033768387:True:=trivial
theorem PySem.W.Fast.tw13358938450280127234:True:=trivial
theorem PySem.W.Fast.tw17439188423871257094:True:=trivial
theorem PySem.W.Fast.tw1972060941660587863:True:=trivial
theorem PySem.W.Fast.tw8340421087043676042:True:=trivial
theorem PySem.W.Fast.tw16314810083701745338:True:=trivial
theorem PySem.W.Fast.tw6170497809330250400:True:=trivial
theorem PySem.W.Fast.tw7235652965015012073:True:=trivial
theorem PySem.W.Fast.tw43922921888491528:True:=trivial
theorem PySem.W.Fast.tw18267622580657375782:True:=trivial
theorem PySem.W.Fast.tw10496211641062394654:True:=trivial
theorem PySem.W.Fast.tw7423736197092751247:True:=trivial
theorem PySem.W.Fast.tw4052865545780314038:True:=trivial
theorem PySem.W.Fast.tw16896451917017838120:True:=trivial
theorem PySem.W.Fast.tw2265246820892560737:True:=trivial
theorem PySem.W.Fast.tw11080514562833375016:True:=trivial
theorem PySem.W.Fast.tw1707828434575214185:True:=trivial
theorem PySem.W.Fast.tw5334438361209138446:True:=trivial
theorem PySem.W.Fast.tw12813007987362088306:True:=trivial
theorem PySem.W.Fast.tw5479824433002628502:True:=trivial
theorem PySem.W.Fast.tw9040669828731605590:True:=trivial
theorem PySem.W.Fast.tw2719869000894469322:True:=trivial
theorem PySem.W.Fast.tw10959707816072883085:True:=trivial
theorem PySem.W.Fast.tw17034181533099085836:True:=trivial
theorem PySem.W.Fast.tw12111151835725795748:True:=trivial
theorem PySem.W.Fast.tw3817468837317808864:True:=trivial
theorem PySem.W.Fast.tw14822818920444810522:True:=trivial
theorem PySem.W.Fast.tw2350045398023278087:True:=trivial
theorem PySem.W.Fast.tw13531016177991540288:True:=trivial
theorem PySem.W.Fast.tw12985940579839640530:True:=trivial
theorem PySem.W.Fast.tw5852540135113090514:True:=trivial
theorem PySem.W.Fast.tw1210311019147450402:True:=trivial
theorem PySem.W.Fast.tw18319368730390382312:True:=trivial
theorem PySem.W.Fast.tw13793661442300717903:True:=trivial
theorem PySem.W.Fast.tw12817153989579592830:True:=trivial
theorem PySem.W.Fast.tw9760024037248068279:True:=trivial
theorem PySem.W.Fast.tw2093880355545354876:True:=trivial
theorem PySem.W.Fast.tw12269676828943717283:True:=trivial
theorem PySem.W.Fast.tw8208447298877874549:True:=trivial
theorem PySem.W.Fast.tw14609088112791579858:True:=trivial
theorem PySem.W.Fast.tw17381054294047890467:True:=trivial
theorem PySem.W.Fast.tw1063331662731128309:True:=trivial
theorem PySem.W.Fast.tw2153933753644378863:True:=trivial
theorem PySem.W.Fast.tw2630134253912943533:True:=trivial
theorem PySem.W.Fast.tw8761508275970942597:True:=trivial
theorem PySem.W.Fast.tw8183287086233121410:True:=trivial
theorem PySem.W.Fast.tw15701571096423696170:True:=trivial
theorem PySem.W.Fast.tw14768981191565023883:True:=trivial
theorem PySem.W.Fast.tw4134927634837598917:True:=trivial
theorem PySem.W.Fast.tw7582224706820518363:True:=trivial
theorem PySem.W.Fast.tw16734943808349390625:True:=trivial
theorem PySem.W.Fast.tw11606451751920852488:True:=trivial
theorem PySem.W.Fast.tw10825133110087869099:True:=trivial
theorem PySem.W.Fast.tw6167824010628269315:True:=trivial
theorem PySem.W.Fast.tw4276889845559286509:True:=trivial
theorem PySem.W.Fast.tw15466585388490899332:True:=trivial
theorem PySem.W.Fast.tw7343530279234718209:True:=trivial
theorem PySem.W.Fast.tw4915024218729384549:True:=trivial
theorem PySem.W.Fast.tw9188649113750941795:True:=trivial
theorem PySem.W.Fast.tw14783078048538843107:True:=trivial
theorem PySem.W.Fast.tw11906873392044760506:True:=trivial
theorem PySem.W.Fast.tw2775677369938797811:True:=trivial
theorem PySem.W.Fast.tw976560997730876827:True:=trivial
theorem PySem.W.Fast.tw14656165154734497277:True:=trivial
theorem PySem.W.Fast.tw5892430578516901808:True:=trivial
theorem PySem.W.Fast.tw3139322457151799408:True:=trivial
theorem PySem.W.Fast.tw981283651988133890:True:=trivial
theorem PySem.W.Fast.tw1539685661705701011:True:=trivial
theorem PySem.W.Fast.tw4801975419429706656:True:=trivial
theorem PySem.W.Fast.tw6774623039945644540:True:=trivial
theorem PySem.W.Fast.tw16739458233096776159:True:=trivial
theorem PySem.W.Fast.tw5636977122896241077:True:=trivial
theorem PySem.W.Fast.tw1013702458504555966:True:=trivial
theorem PySem.W.Fast.tw1048259820606796906:True:=trivial
theorem PySem.W.Fast.tw17435073036268844092:True:=trivial
theorem PySem.W.Fast.tw16692251250871407549:True:=trivial
theorem PySem.W.Fast.tw14002105716581529378:True:=trivial
theorem PySem.W.Fast.tw16602536717372073670:True:=trivial
theorem PySem.W.Fast.tw10864601449015173199:True:=trivial
theorem PySem.W.Fast.tw7174543960878123375:True:=trivial
theorem PySem.W.Fast.tw2435085695995654918:True:=trivial
theorem PySem.W.Fast.tw9082224426381935255:True:=trivial
theorem PySem.W.Fast.tw13146770989846880560:True:=trivial
theorem PySem.W.Fast.tw18212059021261225456:True:=trivial
theorem PySem.W.Fast.tw238790912977236151:True:=trivial
theorem PySem.W.Fast.tw8255420815751446082:True:=trivial
theorem PySem.W.Fast.tw5895631539616094865:True:=trivial
theorem PySem.W.Fast.tw4538733997491304437:True:=trivial
theorem PySem.W.Fast.tw5268661309692221167:True:=trivial
theorem PySem.W.Fast.tw7790430241740825371:True:=trivial
theorem PySem.W.Fast.tw14478581888350430369:True:=trivial
theorem PySem.W.Fast.tw6599435011435162636:True:=trivial
theorem PySem.W.Fast.tw3129308930730804754:True:=trivial
theorem PySem.W.Fast.tw12936077509508517595:True:=trivial
theorem PySem.W.Fast.tw13353072825876322850:True:=trivial
theorem PySem.W.Fast.tw4556996355171267500:True:=trivial
theorem PySem.W.Fast.tw5152907299790195738:True:=trivial
theorem PySem.W.Fast.tw17313880694085937469:True:=trivial
theorem PySem.W.Fast.tw6238452146667103589:True:=trivial
theorem PySem.W.Fast.tw17142364711987248625:True:=trivial
theorem PySem.W.Fast.tw18050760443299221123:True:=trivial
theorem PySem.W.Fast.tw15864613462831869976:True:=trivial
theorem PySem.W.Fast.tw10871274932537833499:True:=trivial
theorem PySem.W.Fast.tw17598455790048337864:True:=trivial
theorem PySem.W.Fast.tw3317799473610926795:True:=trivial
theorem PySem.W.Fast.tw12831337088184614729:True:=trivial
theorem PySem.W.Fast.tw10847059325762460775:True:=trivial
theorem PySem.W.Fast.tw9098502084876124369:True:=trivial
theorem PySem.W.Fast.tw7328934903106157909:True:=trivial
theorem PySem.W.Fast.tw2804918434930867773:True:=trivial
theorem PySem.W.Fast.tw10385132108679101963:True:=trivial
theorem PySem.W.Fast.tw2739210636896209874:True:=trivial
theorem PySem.W.Fast.tw12294458636976169882:True:=trivial
theorem PySem.W.Fast.tw8445404841620007113:True:=trivial
theorem PySem.W.Fast.tw17615817806619647232:True:=trivial
theorem PySem.W.Fast.tw10857656324388569045:True:=trivial
theorem PySem.W.Fast.tw1590433069729905680:True:=trivial
theorem PySem.W.Fast.tw17335148082072654988:True:=trivial
theorem PySem.W.Fast.tw18297999825978939598:True:=trivial
theorem PySem.W.Fast.tw16710115462275980812:True:=trivial
theorem PySem.W.Fast.tw15217313821181412163:True:=trivial
theorem PySem.W.Fast.tw15692957324343366516:True:=trivial
theorem PySem.W.Fast.tw17284243448730064437:True:=trivial
theorem PySem.W.Fast.tw898421456053262238:True:=trivial
theorem PySem.W.Fast.tw17652528721815738179:True:=trivial
theorem PySem.W.Fast.tw508158108099441292:True:=trivial
theorem PySem.W.Fast.tw13744252134445576303:True:=trivial
theorem PySem.W.Fast.tw9039558284257203739:True:=trivial
theorem PySem.W.Fast.tw10253934734196379337:True:=trivial
theorem PySem.W.Fast.tw7814654363699461855:True:=trivial
theorem PySem.W.Fast.tw4047716912145349272:True:=trivial
theorem PySem.W.Fast.tw2100677592716382239:True:=trivial
theorem PySem.W.Fast.tw4000328647982364646:True:=trivial
theorem PySem.W.Fast.tw6052243738305513332:True:=trivial
theorem PySem.W.Fast.tw679762580169406939:True:=trivial
theorem PySem.W.Fast.tw6278014686400361859:True:=trivial
theorem PySem.W.Fast.tw3836204325384653573:True:=trivial
theorem PySem.W.Fast.tw3339112287677124197:True:=trivial
theorem PySem.W.Fast.tw17134070298747911596:True:=trivial
theorem PySem.W.Fast.tw4613156219181712576:True:=trivial
theorem PySem.W.Fast.tw18268027756474411544:True:=trivial
theorem PySem.W.Fast.tw13210945694937684494:True:=trivial
theorem PySem.W.Fast.tw16085026467425213313:True:=trivial
theorem PySem.W.Fast.tw9514555948783408989:True:=trivial
theorem PySem.W.Fast.tw10925909541832339977:True:=trivial
theorem PySem.W.Fast.tw8975337758929482817:True:=trivial
theorem PySem.W.Fast.tw2911064384342059735:True:=trivial
theorem PySem.W.Fast.tw7634002144480815246:True:=trivial
theorem PySem.W.Fast.tw17374965347175346357:True:=trivial
theorem PySem.W.Fast.tw8720775081932920941:True:=trivial
theorem PySem.W.Fast.tw4724327907804589547:True:=trivial
theorem PySem.W.Fast.tw9734331237481484095:True:=trivial
theorem PySem.W.Fast.tw12341131564640993090:True:=trivial
theorem PySem.W.Fast.tw14078236062540718379:True:=trivial
theorem PySem.W.Fast.tw6456053203670431308:True:=trivial
theorem PySem.W.Fast.tw4070589142402051210:True:=trivial
theorem PySem.W.Fast.tw16831884130552932144:True:=trivial
theorem PySem.W.Fast.tw10481925438977576227:True:=trivial
theorem PySem.W.Fast.tw10397821743906721566:True:=trivial
theorem PySem.W.Fast.tw15463954813298173374:True:=trivial
theorem PySem.W.Fast.tw3434972941151000175:True:=trivial
theorem PySem.W.Fast.tw16024153685826441626:True:=trivial
theorem PySem.W.Fast.tw1996996191130520569:True:=trivial
theorem PySem.W.Fast.tw15498339455117068015:True:=trivial
theorem PySem.W.Fast.tw6887512668290544989:True:=trivial
theorem PySem.W.Fast.tw10278284889482328494:True:=trivial
theorem PySem.W.Fast.tw5129528839624240123:True:=trivial
theorem PySem.W.Fast.tw8303424610813901381:True:=trivial
theorem PySem.W.Fast.tw3391893351661456642:True:=trivial
theorem PySem.W.Fast.tw2408106970666416301:True:=trivial
theorem PySem.W.Fast.tw9989330326902894056:True:=trivial
theorem PySem.W.Fast.tw9975282671818354542:True:=trivial
theorem PySem.W.Fast.tw4739028355288494704:True:=trivial
theorem PySem.W.Fast.tw319127792634657285:True:=trivial
theorem PySem.W.Fast.tw10472997459382454932:True:=trivial
theorem PySem.W.Fast.tw363709138571533329:True:=trivial
theorem PySem.W.Fast.tw346193056268856150:True:=trivial
theorem PySem.W.Fast.tw4235024527981142019:True:=trivial
theorem PySem.W.Fast.tw15750276653779015082:True:=trivial
theorem PySem.W.Fast.tw12017846262231389054:True:=trivial
theorem PySem.W.Fast.tw9941977746354574064:True:=trivial
theorem PySem.W.Fast.tw13685612183671938670:True:=trivial
theorem PySem.W.Fast.tw8417631061299645557:True:=trivial
theorem PySem.W.Fast.tw9857405826888236101:True:=trivial
theorem PySem.W.Fast.tw2021036416306431379:True:=trivial
theorem PySem.W.Fast.tw1459004607732595323:True:=trivial
theorem PySem.W.Fast.tw10874324035696732334:True:=trivial
theorem PySem.W.Fast.tw12638643934118885066:True:=trivial
theorem PySem.W.Fast.tw5038678357765367988:True:=trivial
theorem PySem.W.Fast.tw11524563664099968589:True:=trivial
theorem PySem.W.Fast.tw5094019807073060408:True:=trivial
theorem PySem.W.Fast.tw13012237970026759517:True:=trivial
theorem PySem.W.Fast.tw5607105447588089404:True:=trivial
theorem PySem.W.Fast.tw6223283535580060387:True:=trivial
theorem PySem.W.Fast.tw7609367701000517914:True:=trivial
theorem PySem.W.Fast.tw1299380900601876722:True:=trivial
theorem PySem.W.Fast.tw2325423095198687059:True:=trivial
theorem PySem.W.Fast.tw12678468726700989333:True:=trivial
theorem PySem.W.Fast.tw249778705123755602:True:=trivial
theorem PySem.W.Fast.tw1746656841188670406:True:=trivial
theorem PySem.W.Fast.tw230834745810294606:True:=trivial
theorem PySem.W.Fast.tw1711831789411694926:True:=trivial
theorem PySem.W.Fast.tw16490431101985813647:True:=trivial
theorem PySem.W.Fast.tw6941628651573429469:True:=trivial
theorem PySem.W.Fast.tw6078841344117591249:True:=trivial
theorem PySem.W.Fast.tw13818614288772497333:True:=trivial
theorem PySem.W.Fast.tw923795389670393014:True:=trivial
theorem PySem.W.Fast.tw7942642232959891855:True:=trivial
theorem PySem.W.Fast.tw315403386723639436:True:=trivial
theorem PySem.W.Fast.tw3480342661442963001:True:=trivial
theorem PySem.W.Fast.tw10929737876292299345:True:=trivial
theorem PySem.W.Fast.tw13054845975732355619:True:=trivial
theorem PySem.W.Fast.tw10984347122554649512:True:=trivial
theorem PySem.W.Fast.tw1605610503654603128:True:=trivial
theorem PySem.W.Fast.tw81179817630504303:True:=trivial
theorem PySem.W.Fast.tw10363335129875267493:True:=trivial
theorem PySem.W.Fast.tw964374888920319312:True:=trivial
theorem PySem.W.Fast.tw10820596332709883382:True:=trivial
theorem PySem.W.Fast.tw8682086913199758335:True:=trivial
theorem PySem.W.Fast.tw16165266960306679183:True:=trivial
theorem PySem.W.Fast.tw2672205843996855860:True:=trivial
theorem PySem.W.Fast.tw3342490720960669840:True:=trivial
theorem PySem.W.Fast.tw9445201818616294395:True:=trivial
theorem PySem.W.Fast.tw4235376264914061138:True:=trivial
theorem PySem.W.Fast.tw17788870006893524711:True:=trivial
theorem PySem.W.Fast.tw6492661120326520310:True:=trivial
theorem PySem.W.Fast.tw7181375036665148026:True:=trivial
theorem PySem.W.Fast.tw15738776827874561758:True:=trivial
theorem PySem.W.Fast.tw3082369840654253836:True:=trivial
theorem PySem.W.Fast.tw11941295215133347710:True:=trivial
theorem PySem.W.Fast.tw1660051037273816661:True:=trivial
theorem PySem.W.Fast.tw16968449853878525126:True:=trivial
theorem PySem.W.Fast.tw1136416853591584630:True:=trivial
theorem PySem.W.Fast.tw6133536842555027022:True:=trivial
theorem PySem.W.Fast.tw15208467744526825200:True:=trivial
theorem PySem.W.Fast.tw4617299232779258546:True:=trivial
theorem PySem.W.Fast.tw6482110929613389540:True:=trivial
theorem PySem.W.Fast.tw5342459715015293667:True:=trivial
theorem PySem.W.Fast.tw888996374219685006:True:=trivial
theorem PySem.W.Fast.tw10762945979863285406:True:=trivial
theorem PySem.W.Fast.tw13124603354066949319:True:=trivial
theorem PySem.W.Fast.tw6894074541749924191:True:=trivial
theorem PySem.W.Fast.tw11601838292907721323:True:=trivial
theorem PySem.W.Fast.tw16009889500794855718:True:=trivial
theorem PySem.W.Fast.tw16716954171904523813:True:=trivial
theorem PySem.W.Fast.tw5627989623632631413:True:=trivial
theorem PySem.W.Fast.tw12938252317369317763:True:=trivial
theorem PySem.W.Fast.tw7698817049119459317:True:=trivial
theorem PySem.W.Fast.tw11331276973261644255:True:=trivial
theorem PySem.W.Fast.tw3661647465037053085:True:=trivial
theorem PySem.W.Fast.tw15501581626102669996:True:=trivial
theorem PySem.W.Fast.tw2783682660168370604:True:=trivial
theorem PySem.W.Fast.tw16447000623110392027:True:=trivial
theorem PySem.W.Fast.tw13831909099278966473:True:=trivial
theorem PySem.W.Fast.tw7911599584573128112:True:=trivial
theorem PySem.W.Fast.tw16480085066484936497:True:=trivial
theorem PySem.W.Fast.tw17346977281626631837:True:=trivial
theorem PySem.W.Fast.tw2396443247358538692:True:=trivial
theorem PySem.W.Fast.tw16586242204925723113:True:=trivial
theorem PySem.W.Fast.tw5065280452332577427:True:=trivial
theorem PySem.W.Fast.tw3356096893270840152:True:=trivial
theorem PySem.W.Fast.tw2554927592031514257:True:=trivial
theorem PySem.W.Fast.tw1787967041309673792:True:=trivial
theorem PySem.W.Fast.tw898761871894512627:True:=trivial
theorem PySem.W.Fast.tw11780692847983236444:True:=trivial
theorem PySem.W.Fast.tw17244008642638075886:True:=trivial
theorem PySem.W.Fast.tw10927855756329483119:True:=trivial
theorem PySem.W.Fast.tw11987535947083223038:True:=trivial
theorem PySem.W.Fast.tw16889137286450606224:True:=trivial
theorem PySem.W.Fast.tw607748837919383123:True:=trivial
theorem PySem.W.Fast.tw18168835248304932606:True:=trivial
theorem PySem.W.Fast.tw5418239829529086209:True:=trivial
theorem PySem.W.Fast.tw14091169716286475953:True:=trivial
theorem PySem.W.Fast.tw8011115069854046965:True:=trivial
theorem PySem.W.Fast.tw5993269697142937309:True:=trivial
namespace Lw
open L3 PySem
def tbT:List Str:=["BadWay", "BadClaim", "BadWeights"]
def xZ:List (Str×List Str):=[("BadWay", ["BadWay", "CatchError", "ValueError", "Exception", "BaseException", "object"]),("BadClaim", ["BadClaim", "CatchError", "ValueError", "Exception", "BaseException", "object"]),("BadWeights", ["BadWeights", "CatchError", "ValueError", "Exception", "BaseException", "object"])]
def fP:D:=(.tup [(.int 0),(.int 1)])
def d_ACROSS:D:=(.int 0)
def d_UP:D:=(.int 1)
def aT:List (Str×Str):=[("row", "back"),("back", "row"),("even", "lack"),("lack", "even"),("part", "part"),("half", "half")]
def d_WEIGHTED:D:=(.tup [(.str "even"),(.str "lack")])
def d_HALF:D:=(.tup [(.int 1),(.int 2)])
abbrev nF:Sv:=(dM 1 (aJ 2))
abbrev nG:Sv:=(bJ (dM 0 (aJ 1)) nF)
abbrev oF:Sv:=(bJ (dM 2 (eOp oM (aJ 0) (aJ 1))) nG)
abbrev oB:Sv:=(jD (aJ 0))
abbrev oG:Sv:=(bJ (eV (gF (eOp oNe (aJ 1) (eC (.int 0)))) oF) oB)
abbrev oH:Sv:=(bJ (dM 1 (eB zHX (aE (aJ 1) aNil))) oG)
def dD:Mir:=fn 2 3 (bJ (dM 0 (eB zHX (aE (aJ 0) aNil))) oH)
def bN:Mir:=fn 1 1 (jD (zFb (aE (aJ 0) (aE (eC (.int 1)) aNil))))
def gK:Mir:=fn 2 2 (jD (eOp oLt (eOp mZ (eOp oIx (aJ 0) (eC (.int 0))) (eOp oIx (aJ 1) (eC (.int 1)))) (eOp mZ (eOp oIx (aJ 1) (eC (.int 0))) (eOp oIx (aJ 0) (eC (.int 1))))))
abbrev uX:Sv:=(dM 1 (eOp mZ (aJ 1) (eOp oIx (aJ 2) (eC (.int 1)))))
abbrev yF:Sv:=(dM 1 (eC (.int 1)))
abbrev sM:Sv:=(zAC (wJ (aJ 0)) (gName 2) uX)
def iM:List D->Res (List Int):=vZ yF sM
def cI:Mir:=fn 1 1 (sIf (gF (eUn (pI aT) (aJ 0))) (iZ "BadWay" (aE (eC (.str "no such way")) aNil)) sNext)
abbrev iX:Sv:=(sIf (gF (eOp oLt (aJ 1) (eC (.int 0)))) (iZ "BadClaim" (aE (eC (.str "a claim is below nought")) aNil)) sNext)
abbrev pC:Sv:=(zAC (wJ (aJ 0)) (gName 1) iX)
def cE:Mir:=fn 1 2 (bJ (sIf (gF (eOp oEq (eB nA (aE (aJ 0) aNil)) (eC (.int 0)))) (iZ "BadClaim" (aE (eC (.str "there is no claim")) aNil)) sNext) pC)
abbrev iK:Sv:=(sIf (zMe (gF (eOp oLt (aJ 4) (eC (.int 1)))) (gF (eOp oGt (aJ 4) (eOp zGL (eC (.int 10)) (eC (.int 6)))))) (iZ "BadWeights" (aE (eC (.str "a weight is not from 1 to 10 ** 6")) aNil)) sNext)
abbrev nR:Sv:=(zAC (wJ (aJ 1)) (gName 4) iK)
abbrev dL:Sv:=(bJ (sIf (gF (eOp oNe (eB nA (aE (aJ 1) aNil)) (aJ 3))) (iZ "BadWeights" (aE (eC (.str "more or fewer weights than are due")) aNil)) sNext) nR)
def bF:Mir:=fn 3 5 (bJ (dM 3 (eIf (gF (eOp oIn (aJ 0) (eC d_WEIGHTED))) (aJ 2) (eC (.int 0)))) dL)
abbrev rP:Sv:=(jD (eC (.int 0)))
def dB:Mir:=fn 2 2 (bJ (sIf (gF (eOp oLt (aJ 1) (eB nA (aE (aJ 0) aNil)))) (jD (eOp oIx (aJ 0) (aJ 1))) sNext) rP)
abbrev zG:Sv:=(dM 3 (aJ 4))
abbrev zAi:Sv:=(bJ (dM 2 (aJ 3)) zG)
abbrev zAz:Sv:=(bJ (dM 4 (eOp oM (aJ 2) (aJ 3))) zAi)
abbrev zQ:Sv:=(jD (zFb (aE (eOp rC (aJ 0) (aJ 2)) (aE (eOp rC (aJ 1) (aJ 2)) aNil))))
abbrev qA:Sv:=(bJ (sIf (gF (eOp oLt (aJ 1) (eC (.int 0)))) (dM 2 (eOp uB (eC (.int 0)) (aJ 2))) sNext) zQ)
abbrev yJ:Sv:=(bJ (eV (gF (eOp oGt (aJ 3) (eC (.int 0)))) zAz) qA)
abbrev yC:Sv:=(bJ (dM 3 (eB zHX (aE (aJ 1) aNil))) yJ)
def cW:Mir:=fn 2 5 (bJ (dM 2 (eB zHX (aE (aJ 0) aNil))) yC)
def jA:Mir:=fn 2 2 (jD (eOp oLt (eOp mZ (eOp oIx (aJ 0) (eC (.int 0))) (eOp oIx (aJ 1) (eC (.int 1)))) (eOp mZ (eOp oIx (aJ 1) (eC (.int 0))) (eOp oIx (aJ 0) (eC (.int 1))))))
abbrev tP:Sv:=(zEJ 2 (eOp oIx (eF (jX (aE (eOp oM (eOp rC (aJ 4) (eC (.int 7))) (eC (.int 13))) (aE (eOp oM (eOp rC (aJ 4) (eC (.int 97))) (eC (.int 4))) (aE (eOp oM (aJ 3) (eOp zGL (eC (.int 10)) (eC (.int 30)))) aNil))))) (eOp oIx (eF (jX (aE (eC (.int 0)) (aE (eC (.int 0)) (aE (eC (.int 1)) (aE (eC (.int 2)) aNil)))))) (eOp oM (aJ 1) (eC (.int 4))))))
abbrev uD:Sv:=(bJ (dM 4 (eOp oM (eOp zK (eOp mZ (aJ 3) (eC (.int 48271))) (eC (.int 17))) (eC (.int 2147483647)))) tP)
abbrev lO:Sv:=(iG 2)
abbrev tZ:Sv:=(bJ (zAC (wJ (aJ 0)) (gName 3) uD) lO)
def gB:Mir:=fn 2 5 (bJ (zFZ 2 (jX aNil)) tZ)
abbrev rQ:Sv:=(zEJ 2 (eOp zK (eC (.int 1)) (eOp oIx (eF (jX (aE (eOp oM (eOp rC (aJ 4) (eC (.int 7))) (eC (.int 5))) (aE (eOp oM (eOp rC (aJ 4) (eC (.int 13))) (eOp zGL (eC (.int 10)) (eC (.int 6)))) aNil)))) (eOp rC (eOp oM (eOp rC (aJ 1) (eC (.int 4))) (eC (.int 3))) (eC (.int 2))))))
abbrev rG:Sv:=(bJ (dM 4 (eOp oM (eOp zK (eOp mZ (aJ 3) (eC (.int 69697))) (eC (.int 19))) (eC (.int 2147483647)))) rQ)
abbrev kL:Sv:=(iG 2)
abbrev sV:Sv:=(bJ (zAC (wJ (aJ 0)) (gName 3) rG) kL)
def eO:Mir:=fn 2 5 (bJ (zFZ 2 (jX aNil)) sV)
abbrev zGx:Sv:=(jD (zFb (aE (eOp rC (aJ 0) (aJ 2)) (aE (eOp rC (aJ 1) (aJ 2)) aNil))))
abbrev zGU:Sv:=(bJ (sIf (gF (eOp oLt (aJ 1) (eC (.int 0)))) (dM 2 (eUn zGO (aJ 2))) sNext) zGx)
abbrev zGd:Sv:=(bJ (dM 2 (aW dD (aE (aJ 0) (aE (aJ 1) aNil)))) zGU)
def hU:Mir:=fn 2 3 (bJ (sIf (gF (eOp oEq (aJ 1) (eC (.int 0)))) (iZ "NoFraction" (aE (eC (.str "the bottom is nought")) aNil)) sNext) zGd)
def jF:Mir:=fn 2 2 (jD (eIf (gF (aW gK (aE (aJ 0) (aE (aJ 1) aNil)))) (aJ 0) (aJ 1)))
def fS:Mir:=fn 2 2 (jD (eOr (aW gK (aE (aJ 0) (aE (eC fP) aNil))) (aW gK (aE (aJ 1) (aE (aJ 0) aNil)))))
abbrev sD:Sv:=(sIf (gF (aW gK (aE (eOp oIx (aJ 3) (eC d_UP)) (aE (eOp oIx (aJ 2) (eC d_UP)) aNil)))) (iZ "BadLine" (aE (eC (.str "a y is less than the one ahead")) aNil)) sNext)
abbrev uE:Sv:=(bJ (sIf (zGo (gF (aW gK (aE (eOp oIx (aJ 2) (eC d_ACROSS)) (aE (eOp oIx (aJ 3) (eC d_ACROSS)) aNil))))) (iZ "BadLine" (aE (eC (.str "an x is not greater than the one ahead")) aNil)) sNext) sD)
abbrev tN:Sv:=(bJ (dM 3 (eOp oIx (aJ 0) (aJ 1))) uE)
abbrev uL:Sv:=(bJ (dM 2 (eOp oIx (aJ 0) (eOp uB (aJ 1) (eC (.int 1))))) tN)
abbrev sY:Sv:=(zAC (zDJ (aE (eC (.int 1)) (aE (eB nA (aE (aJ 0) aNil)) aNil))) (gName 1) uL)
abbrev sX:Sv:=(bJ (sIf (gF (eOp oNe (eOp oIx (aJ 0) (eC (.int 0))) (zFb (aE (eC fP) (aE (eC fP) aNil))))) (iZ "BadLine" (aE (eC (.str "the first point is not nought and nought")) aNil)) sNext) sY)
def fV:Mir:=fn 1 4 (bJ (sIf (gF (eOp oEq (eB nA (aE (aJ 0) aNil)) (eC (.int 0)))) (iZ "BadLine" (aE (eC (.str "a line has a point")) aNil)) sNext) sX)
abbrev zCQ:Sv:=(tO (aW bF (aE (aJ 0) (aE (aJ 1) (aE (eB nA (aE (aJ 2) aNil)) aNil)))))
abbrev zDq:Sv:=(bJ (tO (aW cE (aE (aJ 2) aNil))) zCQ)
def cN:Mir:=fn 3 3 (bJ (tO (aW cI (aE (aJ 0) aNil))) zDq)
abbrev qH:Sv:=(jD (eUn (rY aT) (aJ 0)))
def cB:Mir:=fn 1 1 (bJ (tO (aW cI (aE (aJ 0) aNil))) qH)
abbrev tX:Sv:=(zEJ 2 (aW bN (aE (aJ 1) aNil)))
abbrev lR:Sv:=(bJ (zHT 1 zBd (aJ 3)) tX)
abbrev uK:Sv:=(iG 2)
abbrev tV:Sv:=(bJ (zAC (wJ (aJ 0)) (gName 3) lR) uK)
abbrev uH:Sv:=(bJ (zFZ 2 (jX (aE (eC fP) aNil))) tV)
def eK:Mir:=fn 1 4 (bJ (dM 1 (eC (.int 0))) uH)
abbrev gY:Sv:=(sIf (tFrzB (gF (aW gK (aE (eOp oIx (aJ 1) (eUn zGO (eC (.int 1)))) (aE (aJ 2) aNil))))) (zEJ 1 (aJ 2)) sNext)
abbrev mJ:Sv:=(iG 1)
abbrev mK:Sv:=(bJ (zAC (wJ (aJ 0)) (gName 2) gY) mJ)
def cU:Mir:=fn 1 3 (bJ (zFZ 1 (fSl (aJ 0) oN (oS (eC (.int 1))))) mK)
def fM:Mir:=fn 2 2 (jD (aW cW (aE (eOp zK (eOp mZ (eOp oIx (aJ 0) (eC (.int 0))) (eOp oIx (aJ 1) (eC (.int 1)))) (eOp mZ (eOp oIx (aJ 1) (eC (.int 0))) (eOp oIx (aJ 0) (eC (.int 1))))) (aE (eOp mZ (eOp oIx (aJ 0) (eC (.int 1))) (eOp oIx (aJ 1) (eC (.int 1)))) aNil))))
def eA:Mir:=fn 2 2 (jD (aW cW (aE (eOp uB (eOp mZ (eOp oIx (aJ 0) (eC (.int 0))) (eOp oIx (aJ 1) (eC (.int 1)))) (eOp mZ (eOp oIx (aJ 1) (eC (.int 0))) (eOp oIx (aJ 0) (eC (.int 1))))) (aE (eOp mZ (eOp oIx (aJ 0) (eC (.int 1))) (eOp oIx (aJ 1) (eC (.int 1)))) aNil))))
def dQ:Mir:=fn 2 2 (jD (aW cW (aE (eOp mZ (eOp oIx (aJ 0) (eC (.int 0))) (eOp oIx (aJ 1) (eC (.int 0)))) (aE (eOp mZ (eOp oIx (aJ 0) (eC (.int 1))) (eOp oIx (aJ 1) (eC (.int 1)))) aNil))))
def lS:Mir:=fn 2 2 (jD (aW hU (aE (eOp zK (eOp mZ (eOp oIx (aJ 0) (eC (.int 0))) (eOp oIx (aJ 1) (eC (.int 1)))) (eOp mZ (eOp oIx (aJ 1) (eC (.int 0))) (eOp oIx (aJ 0) (eC (.int 1))))) (aE (eOp mZ (eOp oIx (aJ 0) (eC (.int 1))) (eOp oIx (aJ 1) (eC (.int 1)))) aNil))))
def cP:Mir:=fn 2 2 (jD (aW hU (aE (eOp uB (eOp mZ (eOp oIx (aJ 0) (eC (.int 0))) (eOp oIx (aJ 1) (eC (.int 1)))) (eOp mZ (eOp oIx (aJ 1) (eC (.int 0))) (eOp oIx (aJ 0) (eC (.int 1))))) (aE (eOp mZ (eOp oIx (aJ 0) (eC (.int 1))) (eOp oIx (aJ 1) (eC (.int 1)))) aNil))))
def dP:Mir:=fn 2 2 (jD (aW hU (aE (eOp mZ (eOp oIx (aJ 0) (eC (.int 0))) (eOp oIx (aJ 1) (eC (.int 0)))) (aE (eOp mZ (eOp oIx (aJ 0) (eC (.int 1))) (eOp oIx (aJ 1) (eC (.int 1)))) aNil))))
def qV:Mir:=fn 2 2 (jD (aW hU (aE (eOp mZ (eOp oIx (aJ 0) (eC (.int 0))) (eOp oIx (aJ 1) (eC (.int 1)))) (aE (eOp mZ (eOp oIx (aJ 0) (eC (.int 1))) (eOp oIx (aJ 1) (eC (.int 0)))) aNil))))
def dE:Mir:=fn 2 2 (sIf (gF (aW fS (aE (aJ 0) (aE (aJ 1) aNil)))) (iZ "Outside" (aE (eC (.str "below nought, or more than there can be")) aNil)) sNext)
def dN:Mir:=fn 2 2 (jK (sQ (zJX (aE (aJ 1) (aE (aJ 0) aNil))) (aW hU (aE (aJ 2) (aE (aJ 3) aNil)))))
abbrev wF:Sv:=(jD (aW fM (aE (eOp oIx (eOp oIx (aJ 0) (eOp uB (aJ 2) (eC (.int 1)))) (eC (.int 1))) (aE (aW dQ (aE (aJ 5) (aE (aJ 4) aNil))) aNil))))
abbrev vD:Sv:=(bJ (dM 5 (aW dQ (aE (aW eA (aE (aJ 1) (aE (eOp oIx (eOp oIx (aJ 0) (eOp uB (aJ 2) (eC (.int 1)))) (eC (.int 0))) aNil))) (aE (zFb (aE (eOp oIx (aJ 3) (eC (.int 1))) (aE (eOp oIx (aJ 3) (eC (.int 0))) aNil))) aNil)))) wF)
abbrev wB:Sv:=(bJ (dM 4 (aW eA (aE (eOp oIx (eOp oIx (aJ 0) (aJ 2)) (eC (.int 1))) (aE (eOp oIx (eOp oIx (aJ 0) (eOp uB (aJ 2) (eC (.int 1)))) (eC (.int 1))) aNil)))) vD)
abbrev wT:Sv:=(sIf (zCR (gF (eOp oGt (aJ 2) (eC (.int 0)))) (gF (aW jA (aE (aJ 1) (aE (eOp oIx (eOp oIx (aJ 0) (aJ 2)) (eC (.int 0))) aNil))))) (bJ (dM 3 (aW eA (aE (eOp oIx (eOp oIx (aJ 0) (aJ 2)) (eC (.int 0))) (aE (eOp oIx (eOp oIx (aJ 0) (eOp uB (aJ 2) (eC (.int 1)))) (eC (.int 0))) aNil)))) wB) sNext)
abbrev vY:Sv:=(bJ (sIf (gF (eOp oEq (eOp oIx (eOp oIx (aJ 0) (aJ 2)) (eC (.int 0))) (aJ 1))) (jD (eOp oIx (eOp oIx (aJ 0) (aJ 2)) (eC (.int 1)))) sNext) wT)
abbrev wL:Sv:=(jD (eOp oIx (eOp oIx (aJ 0) (eUn zGO (eC (.int 1)))) (eC (.int 1))))
def fH:Mir:=fn 2 6 (bJ (zAC (zAu (aE (eB nA (aE (aJ 0) aNil)) aNil)) (gName 2) vY) wL)
abbrev wE:Sv:=(jD (aJ 4))
abbrev vF:Sv:=(bJ (sIf (gF (eOp oEq (eOp oM (eOp rC (aJ 2) (eC (.int 5))) (eC (.int 3))) (eC (.int 1)))) (dM 4 (eOp oIx (eOp oIx (aJ 1) (eOp oM (eOp rC (aJ 2) (eC (.int 11))) (eB nA (aE (aJ 1) aNil)))) (eC (.int 0)))) sNext) wE)
abbrev xC:Sv:=(bJ (dM 4 (aW dQ (aE (eOp oIx (eOp oIx (aJ 1) (eUn zGO (eC (.int 1)))) (eC (.int 0))) (aE (aW cW (aE (eOp oM (eOp rC (aJ 2) (eC (.int 311))) (eOp zK (aJ 3) (eC (.int 1)))) (aE (aJ 3) aNil))) aNil)))) vF)
abbrev wG:Sv:=(bJ (dM 3 (eOp zK (eC (.int 1)) (eOp oM (eOp rC (aJ 2) (eC (.int 7))) (eC (.int 40))))) xC)
def iF:Mir:=fn 2 5 (bJ (dM 2 (eOp oM (eOp zK (eOp mZ (aJ 0) (eC (.int 69697))) (eC (.int 13))) (eC (.int 2147483647)))) wG)
abbrev tU:Sv:=(jD (eOp oEq (aW dP (aE (aJ 3) (aE (aJ 6) aNil))) (aW dP (aE (aJ 4) (aE (aJ 5) aNil)))))
abbrev uG:Sv:=(bJ (dM 6 (aW cP (aE (eOp oIx (aJ 2) (eC d_ACROSS)) (aE (eOp oIx (aJ 1) (eC d_ACROSS)) aNil)))) tU)
abbrev sZ:Sv:=(bJ (dM 5 (aW cP (aE (eOp oIx (aJ 1) (eC d_ACROSS)) (aE (eOp oIx (aJ 0) (eC d_ACROSS)) aNil)))) uG)
abbrev tM:Sv:=(bJ (dM 4 (aW cP (aE (eOp oIx (aJ 2) (eC d_UP)) (aE (eOp oIx (aJ 1) (eC d_UP)) aNil)))) sZ)
def fX:Mir:=fn 3 7 (bJ (dM 3 (aW cP (aE (eOp oIx (aJ 1) (eC d_UP)) (aE (eOp oIx (aJ 0) (eC d_UP)) aNil)))) tM)
abbrev zCS:Sv:=(jD (eB zJi (aE (eF (mI (zMl (aJ 0)) oW (zFb (aE (aW cP (aE (eOp oIx (aJ 1) (eC d_ACROSS)) (aE (eOp oIx (aJ 2) (eC d_ACROSS)) aNil))) (aE (aW cP (aE (eOp oIx (aJ 1) (eC d_UP)) (aE (eOp oIx (aJ 2) (eC d_UP)) aNil))) aNil))))) aNil)))
def oC:Mir:=fn 1 2 (bJ (dM 1 (eOp oIx (aJ 0) (eUn zGO (eC (.int 1))))) zCS)
abbrev xW:Sv:=(dM 2 (aW cP (aE (aJ 2) (aE (aJ 5) aNil))))
abbrev xR:Sv:=(bJ (zEJ 3 (aJ 5)) xW)
abbrev nO:Sv:=(bJ (dM 5 (aW jF (aE (aJ 2) (aE (aW bN (aE (aJ 4) aNil)) aNil)))) xR)
abbrev vT:Sv:=(iG 3)
abbrev xA:Sv:=(bJ (zAC (wJ (aJ 0)) (gName 4) nO) vT)
abbrev vH:Sv:=(bJ (zFZ 3 (jX aNil)) xA)
def fJ:Mir:=fn 2 6 (bJ (dM 2 (aJ 1)) vH)
abbrev tR:Sv:=(zHT 4 uB (eOp oIx (aJ 0) (aJ 6)))
abbrev uA:Sv:=(bJ (dM 3 (zMk (aW cP (aE (aJ 3) (aE (eOp oIx (aJ 5) (aJ 6)) aNil))))) tR)
abbrev tQ:Sv:=(bJ (zMb 5 (aJ 6) (aW jF (aE (aJ 7) (aE (aW bN (aE (eOp oIx (aJ 1) (aJ 6)) aNil)) aNil)))) uA)
abbrev bU:Sv:=(bJ (dM 7 (aW qV (aE (aW dP (aE (aJ 3) (aE (aW bN (aE (eOp oIx (aJ 0) (aJ 6)) aNil)) aNil))) (aE (aW bN (aE (aJ 4) aNil)) aNil)))) tQ)
abbrev iW:Sv:=(iG 5)
abbrev lU:Sv:=(zFC (aE (eF (eZ dN (aE (aJ 0) (aE (aJ 1) aNil)))) aNil) iM (gName 6) bU iW)
abbrev tT:Sv:=(bJ (zFZ 5 (zIH (jX (aE (eC fP) aNil)) (eB nA (aE (aJ 1) aNil)))) lU)
abbrev tY:Sv:=(bJ (dM 4 (eB zBj (aE (aJ 0) aNil))) tT)
def cZ:Mir:=fn 3 8 (bJ (dM 3 (aJ 2)) tY)
abbrev tH:Sv:=(jK (mI (wJ (aJ 0)) oW (aW dP (aE (aJ 3) (aE (aW bN (aE (aJ 4) aNil)) aNil)))))
abbrev tG:Sv:=(bJ (dM 3 (aW qV (aE (aJ 1) (aE (aW bN (aE (aJ 2) aNil)) aNil)))) tH)
abbrev uI:Sv:=(bJ (sIf (gF (eOp oEq (aJ 2) (eC (.int 0)))) (jK (zIH (jX (aE (eC fP) aNil)) (eB nA (aE (aJ 0) aNil)))) sNext) tG)
def eH:Mir:=fn 2 4 (bJ (dM 2 (eB zBj (aE (aJ 0) aNil))) uI)
abbrev qY:Sv:=(zHT 3 uB (eOp oIx (aJ 0) (aJ 6)))
abbrev sI:Sv:=(bJ (zHT 2 zBd (eOp oIx (aJ 1) (aJ 6))) qY)
abbrev eS:Sv:=(bJ (zEJ 5 (aW lS (aE (aW bN (aE (aJ 2) aNil)) (aE (aW dP (aE (eOp oIx (aJ 4) (aJ 6)) (aE (aW bN (aE (aJ 3) aNil)) aNil))) aNil)))) sI)
abbrev kW:Sv:=(iG 5)
abbrev kQ:Sv:=(zFC (aE (aJ 4) aNil) iM (gName 6) eS kW)
abbrev sU:Sv:=(bJ (zFZ 5 (jX (aE (eC fP) aNil))) kQ)
abbrev rM:Sv:=(bJ (dM 4 (eF (eZ dN (aE (aJ 0) (aE (aJ 1) aNil))))) sU)
abbrev sJ:Sv:=(bJ (dM 3 (eB zBj (aE (aJ 0) aNil))) rM)
def dC:Mir:=fn 2 7 (bJ (dM 2 (eC (.int 0))) sJ)
def fI:Mir:=fn 2 2 (jK (mI (zGw (aJ 0)) oW (aW cP (aE (aJ 1) (aE (aJ 2) aNil)))))
abbrev sF:Sv:=(zEJ 1 (aJ 2))
abbrev zAN:Sv:=(bJ (sIf (tFrzB (zCR (gF (eOp oGt (eB nA (aE (aJ 1) aNil)) (eC (.int 1)))) (gF (aW fX (aE (eOp oIx (aJ 1) (eUn zGO (eC (.int 2)))) (aE (eOp oIx (aJ 1) (eUn zGO (eC (.int 1)))) (aE (aJ 2) aNil))))))) (zKm 1) sNext) sF)
abbrev zAF:Sv:=(jD (eB zJi (aE (aJ 1) aNil)))
abbrev zBp:Sv:=(bJ (zAC (wJ (aJ 0)) (gName 2) zAN) zAF)
abbrev zBi:Sv:=(bJ (zFZ 1 (jX aNil)) zBp)
def kY:Mir:=fn 1 3 (bJ (tO (aW fV (aE (aJ 0) aNil))) zBi)
abbrev tW:Sv:=(jK (mI (wJ (eF (eZ cZ (aE (aJ 2) (aE (aJ 0) (aE (aW lS (aE (aJ 1) (aE (aJ 1) aNil))) aNil)))))) oW (aW dP (aE (aJ 3) (aE (eC d_HALF) aNil)))))
def eI:Mir:=fn 2 3 (bJ (dM 2 (eF (zIH (jX (aE (eC (.int 1)) aNil)) (eB nA (aE (aJ 0) aNil))))) tW)
def kD:Mir:=fn 3 3 (jD (aW kY (aE (eF (sQ (zJX (aE (aJ 0) (aE (aJ 1) aNil))) (zFb (aE (aJ 3) (aE (eOp oIx (aJ 4) (aJ 2)) aNil))))) aNil)))
abbrev sW (r:Mir):Sv:=(jK (zEA (aJ 4) (eF (eZ fI (aE (aJ 4) (aE (aJ 3) aNil))))))
abbrev tE (r:Mir):Sv:=(jK (eZ fI (aE (eF (eZ r (aE (aW cB (aE (aJ 0) aNil)) (aE (aJ 1) (aE (aJ 2) aNil))))) (aE (aJ 3) aNil))))
abbrev vN (r:Mir):Sv:=(bJ (sIf (gF (eOp oEq (aJ 0) (eC (.str "half")))) (bJ (dM 4 (eF (mI (wJ (eF (eZ dC (aE (eF (zIH (jX (aE (eC (.int 1)) aNil)) (eB nA (aE (aJ 2) aNil)))) (aE (aJ 2) aNil))))) oW (aW dP (aE (aJ 5) (aE (eC d_HALF) aNil)))))) (sW r)) sNext) (tE r))
abbrev xB (r:Mir):Sv:=(bJ (sIf (gF (eOp oEq (aJ 0) (eC (.str "part")))) (jK (jX (aE (eC fP) (aE (aJ 3) aNil)))) sNext) (vN r))
abbrev wQ (r:Mir):Sv:=(bJ (sIf (gF (eOp oEq (aJ 0) (eC (.str "even")))) (jK (eZ dC (aE (aJ 1) (aE (aJ 2) aNil)))) sNext) (xB r))
abbrev wC (r:Mir):Sv:=(bJ (sIf (gF (eOp oEq (aJ 0) (eC (.str "row")))) (jK (eZ eK (aE (aJ 2) aNil))) sNext) (wQ r))
def bW (r:Mir):Mir:=fn 3 5 (bJ (dM 3 (aW bN (aE (eB zBj (aE (aJ 2) aNil)) aNil))) (wC r))
def bI:Nat->Mir
 | 0=>fn 3 5 sNo
 | n+1=>bW (bI n)
abbrev nQ (r:Mir):Sv:=(jK (sQ (zJX (aE (aJ 2) (aE (aJ 5) aNil))) (aW cP (aE (aW bN (aE (aJ 6) aNil)) (aE (aJ 7) aNil)))))
abbrev oD (r:Mir):Sv:=(bJ (dM 5 (eF (eZ r (aE (eUn (rY aT) (aJ 0)) (aE (aJ 1) (aE (aJ 2) (aE (aW cP (aE (aJ 4) (aE (aJ 3) aNil))) aNil))))))) (nQ r))
abbrev pH (r:Mir):Sv:=(bJ (sIf (zCR (gF (eOp oEq (aJ 0) (eC (.str "half")))) (zGo (gF (aW gK (aE (aJ 4) (aE (aW lS (aE (aJ 3) (aE (aJ 3) aNil))) aNil)))))) (jK (eZ eI (aE (aJ 2) (aE (aJ 3) aNil)))) sNext) (oD r))
abbrev pE (r:Mir):Sv:=(bJ (sIf (gF (eOp oEq (aJ 0) (eC (.str "part")))) (jK (eZ eH (aE (aJ 2) (aE (aJ 3) aNil)))) sNext) (pH r))
abbrev pM (r:Mir):Sv:=(bJ (sIf (gF (eOp oEq (aJ 0) (eC (.str "even")))) (jK (eZ cZ (aE (aJ 1) (aE (aJ 2) (aE (aJ 3) aNil))))) sNext) (pE r))
abbrev oZ (r:Mir):Sv:=(bJ (sIf (gF (eOp oEq (aJ 0) (eC (.str "row")))) (jK (eZ fJ (aE (aJ 2) (aE (aJ 3) aNil)))) sNext) (pM r))
def aS (r:Mir):Mir:=fn 4 6 (bJ (dM 4 (aW bN (aE (eB zBj (aE (aJ 2) aNil)) aNil))) (oZ r))
def aN:Nat->Mir
 | 0=>fn 4 6 sNo
 | n+1=>aS (aN n)
abbrev zDQ:Sv:=(jK (eZ (aN 2) (aE (aJ 0) (aE (aJ 1) (aE (aJ 2) (aE (aJ 3) aNil))))))
abbrev zFE:Sv:=(bJ (tO (aW dE (aE (aJ 3) (aE (aW bN (aE (eB zBj (aE (aJ 2) aNil)) aNil)) aNil)))) zDQ)
def sR:Mir:=fn 4 4 (bJ (tO (aW cN (aE (aJ 0) (aE (aJ 1) (aE (aJ 2) aNil))))) zFE)
abbrev xG:Sv:=(jK (mI (zAu (aE (eB nA (aE (aJ 2) aNil)) aNil)) oW (aW kD (aE (aJ 3) (aE (aJ 4) (aE (aJ 5) aNil))))))
abbrev wR:Sv:=(bJ (dM 4 (eF (mI (wJ (aJ 3)) oW (eF (eZ (aN 2) (aE (aJ 0) (aE (aJ 1) (aE (aJ 2) (aE (aJ 5) aNil))))))))) xG)
abbrev vP:Sv:=(bJ (dM 3 (eF (eZ cU (aE (eF (eZ (bI 2) (aE (aJ 0) (aE (aJ 1) (aE (aJ 2) aNil))))) aNil)))) wR)
def cO:Mir:=fn 3 5 (bJ (tO (aW cN (aE (aJ 0) (aE (aJ 1) (aE (aJ 2) aNil))))) vP)
abbrev rX:Sv:=(jD (aJ 3))
abbrev rB:Sv:=(bJ (zKC tbT 4 (zGC cO (aE (aJ 0) (aE (aJ 1) (aE (aJ 2) aNil)))) (dM 3 (eF (jX (aE (zHL xZ 4 ["ValueError"]) (aE (zHL xZ 4 ["BadWay"]) (aE (zHL xZ 4 ["BadClaim"]) (aE (zHL xZ 4 ["BadWeights"]) aNil)))))))) rX)
def bG:Mir:=fn 3 5 (bJ (dM 3 (eF (jX aNil))) rB)
abbrev mU:Sv:=(sIf (gF (eOp oNe (aW bG (aE (aJ 0) (aE (eF (zEA (aJ 1) (eF (jX (aE (aJ 4) aNil))))) (aE (aJ 7) aNil)))) (eF (jX (aE (eC (.bl true)) (aE (eC (.bl false)) (aE (eC (.bl true)) (aE (eC (.bl false)) aNil)))))))) (jD (eC (.bl false))) sNext)
abbrev lK:Sv:=(jD (eOp oEq (aW bG (aE (aJ 0) (aE (eF (zEA (eF (zEA (eF (fSl (aJ 1) oN (oS (aJ 5)))) (eF (jX (aE (aJ 4) aNil))))) (eF (fSl (aJ 1) (oS (eOp zK (aJ 5) (eC (.int 1)))) oN)))) (aE (aJ 2) aNil)))) (eF (jX (aE (eC (.bl true)) (aE (eC (.bl false)) (aE (eC (.bl false)) (aE (eC (.bl true)) aNil))))))))
abbrev lM:Sv:=(bJ (sIf (gF (eOp oNe (aW bG (aE (aJ 0) (aE (eF (fSl (aJ 1) (oS (eC (.int 1))) oN)) (aE (aJ 2) aNil)))) (eF (jX (aE (eC (.bl true)) (aE (eC (.bl false)) (aE (eC (.bl false)) (aE (eC (.bl true)) aNil)))))))) (jD (eC (.bl false))) sNext) lK)
abbrev lL:Sv:=(bJ (sIf (gF (eOp oEq (aJ 1) (eF (jX aNil)))) (jD (eC (.bl true))) sNext) lM)
abbrev eE:Sv:=(bJ (sIf (gF (eOp oNe (aW bG (aE (aJ 0) (aE (eF (zEA (aJ 1) (eF (jX (aE (eOp zK (eC (.int 1)) (eOp oM (eOp rC (aJ 3) (eC (.int 5))) (eC (.int 9)))) aNil))))) (aE (aJ 2) aNil)))) (eF (jX (aE (eC (.bl true)) (aE (eC (.bl false)) (aE (eC (.bl false)) (aE (eC (.bl true)) aNil)))))))) (jD (eC (.bl false))) sNext) lL)
abbrev iE:Sv:=(bJ (zAC (wJ (eF (jX (aE (aJ 6) (aE (eF (jX aNil)) aNil))))) (gName 7) mU) eE)
abbrev iD:Sv:=(bJ (sIf (gF (eOp oNe (aW bG (aE (eOp oIx (eF (jX (aE (eC (.str "rows")) (aE (eC (.str "")) (aE (eC (.str "Even")) (aE (eC (.str "boat")) aNil)))))) (eOp oM (aJ 3) (eC (.int 4)))) (aE (eF (zEA (aJ 1) (eF (jX (aE (aJ 4) aNil))))) (aE (aJ 6) aNil)))) (eF (jX (aE (eC (.bl true)) (aE (eC (.bl true)) (aE (eC (.bl false)) (aE (eC (.bl false)) aNil)))))))) (jD (eC (.bl false))) sNext) iE)
abbrev lW:Sv:=(bJ (dM 6 (eF (zEA (eF (zEA (eF (fSl (aJ 2) oN (oS (aJ 5)))) (eF (jX (aE (eOp uB (eOp uB (eC (.int 0)) (eC (.int 1))) (eOp oM (eOp rC (aJ 3) (eC (.int 7))) (eOp zGL (eC (.int 10)) (eC (.int 9))))) aNil))))) (eF (fSl (aJ 2) (oS (eOp zK (aJ 5) (eC (.int 1)))) oN))))) iD)
abbrev mX:Sv:=(bJ (dM 5 (eOp oM (eOp rC (aJ 3) (eC (.int 3))) (eB nA (aE (aJ 2) aNil)))) lW)
def cT:Mir:=fn 4 8 (bJ (dM 4 (eOp oIx (eF (jX (aE (eC (.int 0)) (aE (eOp zK (eOp zGL (eC (.int 10)) (eC (.int 6))) (eC (.int 1))) (aE (eOp uB (eC (.int 0)) (eC (.int 1))) aNil))))) (eOp oM (aJ 3) (eC (.int 3))))) mX)
abbrev zGB:Sv:=(sIf (gF (eOp oNe (aW fH (aE (eOp oIx (aJ 5) (aJ 10)) (aE (aJ 7) aNil))) (eOp oIx (aJ 8) (aJ 10)))) (jD (eC (.bl false))) sNext)
abbrev wP:Sv:=(bJ (dM 9 (aW fM (aE (aJ 9) (aE (eOp oIx (aJ 8) (aJ 10)) aNil)))) zGB)
abbrev zGJ:Sv:=(sIf (gF (eOp oNe (aJ 9) (aJ 7))) (jD (eC (.bl false))) sNext)
abbrev zCf:Sv:=(bJ (zAC (zAu (aE (eB nA (aE (aJ 2) aNil)) aNil)) (gName 10) wP) zGJ)
abbrev zCt:Sv:=(bJ (dM 9 (zFb (aE (eC (.int 0)) (aE (eC (.int 1)) aNil)))) zCf)
abbrev zBM:Sv:=(bJ (dM 8 (eF (eZ sR (aE (aJ 3) (aE (eF (zE (aE (aJ 4) aNil))) (aE (eF (zE (aE (aJ 2) aNil))) (aE (aJ 7) aNil))))))) zCt)
abbrev zBI:Sv:=(bJ (dM 7 (aW iF (aE (aJ 6) (aE (eOp oIx (aJ 5) (eOp oM (eOp rC (aJ 6) (eC (.int 4))) (eB nA (aE (aJ 5) aNil)))) aNil)))) zBM)
abbrev zGh:Sv:=(jD (aW cT (aE (aJ 3) (aE (aJ 4) (aE (aJ 2) (aE (aW dB (aE (aJ 0) (aE (eC (.int 1)) aNil))) aNil))))))
abbrev zHl:Sv:=(bJ (sIf (gF (eOp oNe (aJ 11) (eF (mI (wJ (aJ 5)) oW (aW oC (aE (aJ 12) aNil)))))) (jD (eC (.bl false))) sNext) zGh)
abbrev wV:Sv:=(bJ (dM 11 (eF (eZ cO (aE (aW cB (aE (aJ 3) aNil)) (aE (eF (zE (aE (aJ 4) aNil))) (aE (eF (zE (aE (aJ 2) aNil))) aNil)))))) zHl)
abbrev zCI:Sv:=(bJ (zAC (wJ (eF (zEA (eF (jX (aE (eC (.int 0)) aNil))) (eF (fSl (aJ 0) oN (oS (eC (.int 12)))))))) (gName 6) zBI) wV)
abbrev xP:Sv:=(bJ (dM 5 (eF (eZ cO (aE (aJ 3) (aE (eF (zE (aE (aJ 4) aNil))) (aE (eF (zE (aE (aJ 2) aNil))) aNil)))))) zCI)
abbrev zDZ:Sv:=(bJ (sIf (gF (eOp oIn (aJ 3) (zFb (aE (eC (.str "even")) (aE (eC (.str "lack")) aNil))))) (dM 4 (eF (eZ eO (aE (eF (mI (zAu (aE (eB nA (aE (aJ 2) aNil)) aNil)) oW (aW dB (aE (aJ 0) (aE (eOp zK (eC (.int 7)) (aJ 12)) aNil))))) (aE (aJ 1) aNil))))) sNext) xP)
abbrev zDz:Sv:=(bJ (dM 4 (eF (jX aNil))) zDZ)
abbrev vQ:Sv:=(bJ (dM 3 (eOp oIx (eF (jX (aE (eC (.str "row")) (aE (eC (.str "back")) (aE (eC (.str "even")) (aE (eC (.str "lack")) (aE (eC (.str "part")) (aE (eC (.str "half")) aNil)))))))) (eOp oM (eOp rC (aJ 1) (eC (.int 12))) (eC (.int 6))))) zDz)
abbrev zEB:Sv:=(bJ (sIf (gF (eOp oEq (aJ 2) (eF (jX aNil)))) (dM 2 (eF (jX (aE (eOp oM (aJ 1) (eC (.int 5))) aNil)))) sNext) vQ)
abbrev zEK:Sv:=(bJ (dM 2 (eF (eZ gB (aE (eF (fSl (aJ 0) (oS (eC (.int 1))) (oS (eC (.int 7))))) (aE (aJ 1) aNil))))) zEB)
def zJe:Mir:=fn 1 12 (bJ (dM 1 (aW dB (aE (aJ 0) (aE (eC (.int 0)) aNil)))) zEK)
end Lw
namespace Lw
open L3 PySem Fr Fq Ln
theorem c_NOUGHT:fP=dq 0:=rfl
local macro_rules | `(tactic| walk_at "ev")=>do
 let ids:Array (Lean.TSyntax `term):=(("c_NOUGHT d_ACROSS d_UP d_WEIGHTED d_HALF fn_at iZip_at fComp2_at chO_s oEq_s oNe_s oTabNot_s L3.start sSeq_at seqF_nx seqF_ret sSet_at setF sOwn_at ownF sRet_at retF sRetF_at retFF sRetOwn_at retS sRetN sIf_at ifF_t ifF_f sNext sNo sDrop_at dropF dropG eVar_at varS eC eOp_at opF eUn eCall_at callF rtF eB eTup_at tupF aCons_at consF consG aNil tVal_at blF tNotB_at notF tAndB_at tandF_t tandF_f tOrB_at torF_t torF_f eAnd_at andF_t andF_f eOr_at orF_t orF_f eIf_at eifF_t eifF_f eF_at efF fLst_at fLstF fCall_at fcallF rtFF fList_at fListF_l fListF_t fComp_at fRep_at repF fCat_at catF catG eFrz_at frzF oN oS_at oSF fSl_at fSlF fSlG fSlH isNon sApp_at appS appF sAug_at augS augF xDrop_at xdropF setG sTry_at tryF_ok tryF_err tryE_t tryH_nx eIsE_at sUnp_at unpF nxF bSum_l bSum_t gTup_at gtF_t gCons_at gNil_at gName sFor_at forF iRev_at revD_t iRevL_at revL_l iSeq_at seqD_l seqD_t iRng1_at iRng2_at sFrz tFrzB okb erb Rt.d fin oAdd_i oAddI_i oSub_i oMul_i oDiv_i oMod_i oPow_i oEq_i oNe_i oLt_i oLe_i oGt_i oGe_i oIx_tc sPop_at popS dp_mk ty_dp len_dp ix_dp0 ix_dp1 dep_dp noL_dp oEq_dp oNe_dp noLs_dps oNeg_i oNot_b bAbs_i bLen_t bLen_l bMin_i bTup_t bTup_l eIsT_at isTF isT ty_i ty_t ty_l ty_b ty_s ty_n ofO_some atD sRaise_at raiseF Sl.frz noErr dep depS noL noLs List.map_cons List.map_nil List.cons_append List.nil_append List.append_nil List.replicate List.length_cons List.length_nil List.getElem?_cons_zero List.getElem?_cons_succ List.set_cons_zero List.set_cons_succ Nat.reduceAdd Nat.reduceSub Nat.reduceLeDiff Nat.reduceEqDiff Nat.zero_add Nat.sub_self Nat.max_self Nat.zero_le if_true ite_true ite_false if_false Bool.false_eq_true Bool.not_true Bool.not_false reduceIte ite_self Int.toNat_zero Int.reduceToNat Int.reduceLE Int.reduceLT Int.le_refl decide_true decide_false Bool.or_true Bool.or_false Bool.true_or Bool.false_or Bool.and_true Bool.true_and Bool.and_false Bool.false_and String.reduceBEq String.reduceEq beq_self_eq_true ix_dq0 ix_dq1 ty_dq dep_dq noL_dq len_dq eq_dq oEq_dq oNe_dq List.length_map okDiv_lit okMul_litr okMul_litl okp9 okp30 p10 fdiv_pos fmod_pos Int.reduceEq Int.reduceNeg p10ne p10ne2 p10pos2 Int.reduceMul Int.reduceAdd Int.reduceSub Int.reduceDiv Int.reduceMod eqD Nat.reduceLT Nat.reducePow ne_eq not_true_eq_false not_false_eq_true".splitOn " ").map fun s=>⟨Lean.mkIdent s.toName⟩).toArray
 `(tactic| simp only [$[$ids:term],*])
theorem qD (t b:Int):dD [.int t,.int b]=.ok (.v (.int (Int.gcd t b:Int))):=by
 unfold dD
 walk_at "ev"
 refine zHp (fun ρ=>∃ (x y:Int) (r:Sl),ρ=[.val (.int x),.val (.int y),r]/\0<=x/\0<=y/\Int.gcd x y=Int.gcd t b) (fun ρ=>(slI 1 ρ).toNat)
  (fun r=>(r.bind (zHF (jD (aJ 0)))).bind fin=.ok (.v (.int (Int.gcd t b:Int)))) ⟨_,_,_,rfl,by omega,by omega,by simp [Int.gcd]⟩ ?_
 rintro ρ ⟨x,y,r,rfl,hx,hy,hg⟩
 by_cases h:y=0
 ·subst h
  refine .inl ⟨rfl,?_⟩
  have e:x=(Int.gcd t b:Int):=by
   rw [Int.gcd_zero_right] at hg
   omega
  rw [<-e]
  rfl
 ·refine .inr ⟨?_,[.val (.int y),.val (.int (x.fmod y)),.val (.int (x.fmod y))],?_,⟨y,x.fmod y,_,rfl,hy,?_,?_⟩,?_⟩
  ·walk_at "ev"
   rw [decide_eq_false h];rfl
  ·walk_at "ev"
   rw [oMod_i h]
   walk_at "ev"
  ·rw [zBs _ hy];exact Int.emod_nonneg _ h
  ·rw [zBs _ hy];exact (Fq.zBJ hx (by omega)).trans hg
  ·have:=Int.emod_lt_of_pos x (show 0 < y by omega)
   rw [zBs _ hy]
   show (x % y).toNat < y.toNat
   omega
theorem zLB {t b:Int} (hb:b≠0):(dv t b).natAbs<=b.natAbs:=Nat.le_of_dvd (by omega) (Int.natAbs_dvd_natAbs.mpr (zCc t b))
theorem zAs {t b:Int} {n:Nat} (hb:b≠0) (hn:b.natAbs < 2^n) (h:n<=8999):hU [.int t,.int b]=.ok (.v (dq (Rat.divInt t b))):=by
 have hd:kB (dv t b)=true:=qT (zLz hb) (Nat.lt_of_le_of_lt (zLB hb) hn) h
 have e0:decide (b=0)=false:=decide_eq_false hb
 unfold hU
 walk_at "ev"
 rw [e0]
 walk_at "ev"
 rw [qD]
 walk_at "ev"
 by_cases c:b < 0
 ·have e:-(Int.gcd t b:Int)=dv t b:=by unfold dv;rw [if_pos c]
  rw [decide_eq_true c]
  walk_at "ev"
  rw [e,oDiv_i hd]
  walk_at "ev"
  rw [oDiv_i hd]
  walk_at "ev"
  rw [uW hb,uP hb]
  rfl
 ·have e:(Int.gcd t b:Int)=dv t b:=by unfold dv;rw [if_neg c]
  rw [decide_eq_false c]
  walk_at "ev"
  rw [e,oDiv_i hd]
  walk_at "ev"
  rw [oDiv_i hd]
  walk_at "ev"
  rw [uW hb,uP hb]
  rfl
theorem zMp (t:Int):hU [.int t,.int 0]=.err "NoFraction" := by
 unfold hU
 walk_at "ev"
theorem zBL {p q:Rat} {m n:Nat} (hp:Sz m p) (hq:Sz n q) (h:m+n<=8999):lS [dq p,dq q]=.ok (.v (dq (p+q))):=by
 unfold lS
 walk_at "ev"
 rw [oMul_i (bK hp.1 hq.d (by omega))]
 walk_at "ev"
 rw [oMul_i (bK hq.1 hp.d (by omega))]
 walk_at "ev"
 rw [oMul_i (bK hp.d hq.d (by omega))]
 walk_at "ev"
 rw [zAs (Int.mul_ne_zero (dJ p) (dJ q)) (dX hp.d hq.d) h,zDY]
 walk_at "ev"
theorem eG {p q:Rat} {m n:Nat} (hp:Sz m p) (hq:Sz n q) (h:m+n<=8999):cP [dq p,dq q]=.ok (.v (dq (p - q))):=by
 unfold cP
 walk_at "ev"
 rw [oMul_i (bK hp.1 hq.d (by omega))]
 walk_at "ev"
 rw [oMul_i (bK hq.1 hp.d (by omega))]
 walk_at "ev"
 rw [oMul_i (bK hp.d hq.d (by omega))]
 walk_at "ev"
 rw [zAs (Int.mul_ne_zero (dJ p) (dJ q)) (dX hp.d hq.d) h,zDA]
 walk_at "ev"
theorem mP {p q:Rat} {m n:Nat} (hp:Sz m p) (hq:Sz n q) (h:m+n<=8999):dP [dq p,dq q]=.ok (.v (dq (p * q))):=by
 unfold dP
 walk_at "ev"
 rw [oMul_i (bK hp.1 hq.1 (by omega))]
 walk_at "ev"
 rw [oMul_i (bK hp.d hq.d (by omega))]
 walk_at "ev"
 rw [zAs (Int.mul_ne_zero (dJ p) (dJ q)) (dX hp.d hq.d) h,zEf]
 walk_at "ev"
theorem zHt {p q:Rat} {m n:Nat} (hp:Sz m p) (hq:Sz n q) (h0:q≠0) (h:m+n<=8999):qV [dq p,dq q]=.ok (.v (dq (p / q))):=by
 unfold qV
 walk_at "ev"
 rw [oMul_i (bK hp.1 hq.d (by omega))]
 walk_at "ev"
 rw [oMul_i (bK hp.d hq.1 (by omega))]
 walk_at "ev"
 rw [zAs (Int.mul_ne_zero (dJ p) (zDX.mpr h0)) (dX hp.d hq.1) h,zFN]
 walk_at "ev"
theorem nZ {p q:Rat} {m n:Nat} (hp:Sz m p) (hq:Sz n q) (h:m+n<=99999):gK [dq p,dq q]=.ok (.v (.bl (decide (p < q)))):=by
 unfold gK
 walk_at "ev"
 rw [oMul_i (bK hp.1 hq.d (by omega))]
 walk_at "ev"
 rw [oMul_i (bK hq.1 hp.d (by omega))]
 walk_at "ev"
 simp only [lt_iff]
def mn (a b:Rat):Rat:=if a < b then a else b
def ps0 (x:Rat):Rat:=if x < 0 then 0 else x
def iC:List Int->Int->Rat->List Rat
 | [],_,_=>[]
 | c::r,a,q=>mn (ps0 (q - (a:Rat))) (c:Rat)::iC r (a+c) q
theorem zAb:∀ (cs:List Int) (a:Int) (q:Rat),(iC cs a q).length=cs.length
 | [],_,_=>rfl
 | c::r,a,q=>by simp only [iC,List.length_cons,zAb r]
theorem zJn {q:Rat} {a c:Int} (h:0<=c):ps0 (q - (a:Rat)) - mn (ps0 (q - (a:Rat))) (c:Rat)=ps0 (q - ((a+c:Int):Rat)):=by
 have h':(0:Rat)<=(c:Rat):=by exact_mod_cast h
 rw [Rat.intCast_add]
 unfold ps0 mn
 grind
theorem cJ {n:Nat} {k:Int} (h:k.natAbs < 2^n) (h0:0 < n):Sz n (k:Rat):=by
 refine ⟨h,?_⟩
 show 1 < 2^n
 exact Nat.one_lt_two_pow (by omega)
theorem zLo {n:Nat} {q:Rat} (h:Sz n q) (h0:0 < n):Sz n (ps0 q):=by
 unfold ps0
 split
 ·exact cJ (k:=0) (Nat.two_pow_pos n) h0
 ·exact h
theorem zIj {n:Nat} {p q:Rat} (h:Sz n p) (h':Sz n q):Sz n (mn p q):=by
 unfold mn
 split
 ·exact h
 ·exact h'
theorem bV (k:Int):bN [.int k]=.ok (.v (dq (k:Rat))):=by
 unfold bN
 walk_at "ev"
 rw [zKj]
theorem zCG {p q:Rat} {m n:Nat} (hp:Sz m p) (hq:Sz n q) (h:m+n<=99999):jF [dq p,dq q]=.ok (.v (dq (mn p q))):=by
 unfold jF
 walk_at "ev"
 rw [nZ hp hq h]
 walk_at "ev"
 unfold mn
 by_cases c:p < q
 ·rw [decide_eq_true c,if_pos c]
  walk_at "ev"
 ·rw [decide_eq_false c,if_neg c]
  walk_at "ev"
structure Cl (cs:List Int):Prop where
 nn:∀ c∈cs,0<=c
 up:∀ c∈cs,c < 10^30
 lo:1<=cs.length
 hi:cs.length<=12
theorem zIa:∀ {cs:List Int},(∀ c∈cs,0<=c)->(∀ c∈cs,c < 10^30)->0<=cs.sum/\cs.sum<=cs.length * 10^30
 | [],_,_=>by decide
 | c::r,h,h'=>by
  have ih:=zIa (fun x hx=>h x (List.mem_cons_of_mem _ hx)) fun x hx=>h' x (List.mem_cons_of_mem _ hx)
  have a:=h c List.mem_cons_self
  have b:=h' c List.mem_cons_self
  rw [List.sum_cons,List.length_cons]
  refine ⟨by omega,?_⟩
  have:((r.length+1:Nat):Int) * 10^30=(r.length:Int) * 10^30+10^30:=by rw [Int.natCast_add,Int.add_mul];rfl
  omega
theorem Cl.sum {cs:List Int} (h:Cl cs):0<=cs.sum/\cs.sum < 2^104:=by
 have a:=zIa h.nn h.up
 have b:=h.hi
 refine ⟨a.1,?_⟩
 omega
structure Haul (m:Nat) (q:Rat) (W:Int):Prop where
 nn:0<=q
 up:q<=(W:Rat)
 sz:Sz m q
theorem zCJ {d:D} {q:Rat} {m:Nat} (hm:m<=3000) (hq:Sz m q):∀ (cs:List Int) (a:Int) (acc:List D) (s t:Sl),(∀ c∈cs,0<=c)->(∀ c∈cs,c < 10^30)->0<=a->a+cs.length * 10^30 < 2^110->acc.length+cs.length<=100->
  ∃ l' s' t',dY (gName 4) nO (cs.map D.int) [.val d,.val (dq q),.val (dq (ps0 (q - (a:Rat)))),.own acc,s,t]=.ok (.nx [.val d,.val (dq q),l',.own (acc++(iC cs a q).map dq),s',t'])
 | [],a,acc,s,t,_,_,_,_,_=>⟨.val (dq (ps0 (q - (a:Rat)))),s,t,by rw [List.map_nil,dY];simp [iC]⟩
 | c::r,a,acc,s,t,h1,h2,h3,h4,h5=>by
  have c0:=h1 c List.mem_cons_self
  have c1:=h2 c List.mem_cons_self
  rw [List.length_cons] at h4 h5
  have e4:((r.length+1:Nat):Int) * 10^30=(r.length:Int) * 10^30+10^30:=by rw [Int.natCast_add,Int.add_mul];rfl
  have r0:0<=(r.length:Int) * 10^30:=Int.mul_nonneg (by omega) (by decide)
  have zl:Sz (m+111) (ps0 (q - (a:Rat))):=zLo (hq.sub (cJ (n:=110) (by omega) (by decide))) (by omega)
  have zc:Sz (m+111) (c:Rat):=Sz.mono (m:=110) (cJ (by omega) (by decide)) (by omega)
  obtain ⟨l',s',t',e⟩:=zCJ hm hq r (a+c) (acc++[dq (mn (ps0 (q - (a:Rat))) (c:Rat))]) (.val (.int c)) (.val (dq (mn (ps0 (q - (a:Rat))) (c:Rat)))) (fun x hx=>h1 x (List.mem_cons_of_mem _ hx)) (fun x hx=>h2 x (List.mem_cons_of_mem _ hx)) (by omega) (by omega) (by rw [List.length_append,List.length_singleton];omega)
  refine ⟨l',s',t',?_⟩
  rw [List.map_cons,dR (ρ1:=[.val d,.val (dq q),.val (dq (ps0 (q - (a:Rat)))),.own acc,.val (.int c),t]) rfl,e]
  ·rw [iC,List.map_cons,List.append_assoc];rfl
  ·walk_at "ev"
   rw [bV]
   walk_at "ev"
   rw [zCG zl zc (by omega)]
   walk_at "ev"
   rw [if_pos (by omega)]
   walk_at "ev"
   rw [eG zl (zIj zl zc) (by omega)]
   walk_at "ev"
   rw [zJn c0]
theorem zAK {d:D} {cs:List Int} {q:Rat} (hd:d=.lst (cs.map D.int)∨d=.tup (cs.map D.int)) {m:Nat} (hm:m<=3000) (hc:Cl cs) (hq:Sz m q) (h0:0<=q):fJ [d,dq q]=.ok (.f ((iC cs 0 q).map dq)):=by
 have sq:zHD d=.ok (cs.map D.int):=by rcases hd with rfl | rfl<;>rfl
 have:=hc.hi
 obtain ⟨l',s',t',e⟩:=zCJ (d:=d) hm hq cs 0 [] .un .un hc.nn hc.up (by decide) (by omega) (by rw [List.length_nil];omega)
 have z:ps0 (q - ((0:Int):Rat))=q:=by
  unfold ps0
  rw [show ((0:Int):Rat)=0 from rfl]
  grind
 rw [z] at e
 unfold fJ
 walk_at "ev"
 rw [sq]
 walk_at "ev"
 rw [e]
 rfl
def wY (cs:List Int) (q:Rat):List Rat:=cs.map fun c=>Rat.divInt (c * q.num) (max 1 cs.sum * q.den)
theorem zDO {q:Rat} {c W:Int} (h:0 < W):q / (W:Rat) * (c:Rat)=Rat.divInt (c * q.num) (W * q.den):=by
 have hW:(W:Rat)≠0:=by
  intro z
  have:W=0:=by exact_mod_cast z
  omega
 rw [<-zFN q (W:Rat)]
 show Rat.divInt (q.num * ((1:Nat):Int)) (q.den * W) * (c:Rat)=_
 rw [show ((1:Nat):Int)=1 from rfl,Int.mul_one,<-Rat.num_divInt_den (c:Rat),Rat.divInt_mul_divInt]
 show Rat.divInt (q.num * c) (q.den * W * ((1:Nat):Int))=_
 rw [show ((1:Nat):Int)=1 from rfl,Int.mul_one,Int.mul_comm q.num,Int.mul_comm (q.den:Int)]
theorem nY:∀ {cs:List Int},(∀ c∈cs,0<=c)->cs.sum=0->∀ c∈cs,c=0
 | [],_,_,c,h=>by cases h
 | d::r,h,e,c,hc=>by
  rw [List.sum_cons] at e
  have h0:=h d List.mem_cons_self
  have hr:0<=r.sum:=by
   have:∀ l:List Int,(∀ c∈l,0<=c)->0<=l.sum:=by
    intro l
    induction l with
    | nil=>intro _;decide
    | cons a l ih=>intro hl;rw [List.sum_cons];have:=hl a List.mem_cons_self;have:=ih fun x hx=>hl x (List.mem_cons_of_mem _ hx);omega
   exact this r fun x hx=>h x (List.mem_cons_of_mem _ hx)
  rcases List.mem_cons.mp hc with rfl | hc
  ·omega
  ·exact nY (fun x hx=>h x (List.mem_cons_of_mem _ hx)) (by omega) c hc
theorem zN {d:D} {cs:List Int} {q:Rat} (hd:d=.lst (cs.map D.int)∨d=.tup (cs.map D.int)) {m:Nat} (hm:m<=3000) (hc:Cl cs) (hq:Sz m q):eH [d,dq q]=.ok (.f ((wY cs q).map dq)):=by
 have sm:=hc.sum
 have hi:=hc.hi
 have sq:zHD d=.ok (cs.map D.int):=by rcases hd with rfl | rfl<;>rfl
 have su:zBj [d]=.ok (.int cs.sum):=by rcases hd with rfl | rfl;exact bSum_l;exact bSum_t
 have ln:nA [d]=.ok (.int cs.length):=by rcases hd with rfl | rfl<;>(walk_at "ev")
 unfold eH
 walk_at "ev"
 rw [su]
 walk_at "ev"
 by_cases c0:cs.sum=0
 ·rw [decide_eq_true c0]
  walk_at "ev"
  rw [ln]
  walk_at "ev"
  rw [zCq (by omega)]
  walk_at "ev"
  have e:(wY cs q).map dq=List.replicate cs.length (dq 0):=by
   unfold wY
   rw [List.map_map,<-List.map_const']
   refine List.map_congr_left fun c h=>?_
   have c0:=nY hc.nn c0 c h
   subst c0
   show dq (Rat.divInt (0 * q.num) _)=dq 0
   rw [Int.zero_mul,Rat.zero_divInt]
  rw [e]
 ·rw [decide_eq_false c0]
  walk_at "ev"
  have W0:0 < cs.sum:=by omega
  have zW:Sz 110 (cs.sum:Rat):=cJ (by omega) (by decide)
  have nW:(cs.sum:Rat)≠0:=by
   intro z
   have:cs.sum=0:=by exact_mod_cast z
   omega
  rw [bV]
  walk_at "ev"
  rw [zHt hq zW nW (by omega)]
  walk_at "ev"
  rw [sq]
  walk_at "ev"
  rw [fO (u:=D.int) (g:=fun c=>dq (Rat.divInt (c * q.num) (max 1 cs.sum * q.den))) (by omega) (fun c h=>by
   have c0:=hc.nn c h
   have c1:=hc.up c h
   walk_at "ev"
   rw [bV]
   walk_at "ev"
   rw [mP (hq.div zW nW) (cJ (n:=110) (k:=c) (by omega) (by decide)) (by omega)]
   walk_at "ev"
   rw [zDO W0,Int.max_eq_right (by omega)])]
  walk_at "ev"
  unfold wY
  rw [List.map_map]
  rfl
def hG (f:Nat->Rat) (l:List Nat):Rat:=(l.map f).sum
theorem bD (f:Nat->Rat) (i:Nat) (l:List Nat):hG f (i::l)=f i+hG f l:=by unfold hG;rw [List.map_cons,List.sum_cons]
theorem gO (f:Nat->Rat):hG f []=0:=rfl
theorem pF {f g:Nat->Rat}:∀ {l:List Nat},(∀ i∈l,f i<=g i)->hG f l<=hG g l
 | [],_=>Rat.le_refl
 | i::l,h=>by
  rw [bD,bD]
  have a:=h i List.mem_cons_self
  have b:=pF fun j hj=>h j (List.mem_cons_of_mem _ hj)
  grind
theorem pO {f g:Nat->Rat}:∀ {l:List Nat},(∀ i∈l,f i<=g i)->hG f l=hG g l->∀ i∈l,f i=g i
 | [],_,_,i,hi=>by cases hi
 | j::l,h,e,i,hi=>by
  rw [bD,bD] at e
  have a:=h j List.mem_cons_self
  have hb:∀ i∈l,f i<=g i:=fun k hk=>h k (List.mem_cons_of_mem _ hk)
  have b:=pF hb
  rcases List.mem_cons.mp hi with rfl | hi
  ·grind
  ·exact pO hb (by grind) i hi
theorem rN {f:Nat->Rat} {l m:List Nat} (h:l.Perm m):hG f l=hG f m:=by
 induction h with
 | nil=>rfl
 | cons x _ ih=>rw [bD,bD,ih]
 | swap x y l=>rw [bD,bD,bD,bD];grind
 | trans _ _ h1 h2=>rw [h1,h2]
theorem dF {w:Nat->Rat} {t:Rat}:∀ {l:List Nat},hG (fun i=>w i * t) l=t * hG w l
 | []=>by rw [gO,gO];grind
 | i::l=>by rw [bD,bD,dF];grind
theorem dS {f g:Nat->Rat} {l:List Nat} (h:∀ i∈l,f i=g i):hG f l=hG g l:=by unfold hG;rw [List.map_congr_left h]
theorem zGl {w:Nat->Rat}:∀ {l:List Nat},(∀ i∈l,0 < w i)->0<=hG w l
 | [],_=>Rat.le_refl
 | i::l,h=>by
  rw [bD]
  have a:=h i List.mem_cons_self
  have b:=zGl fun j hj=>h j (List.mem_cons_of_mem _ hj)
  grind
def dU (c w:Nat->Rat) (t:Rat) (i:Nat):Rat:=mn (w i * t) (c i)
theorem zMW {a b c d:Rat} (h:a<=c) (h':b<=d):mn a b<=mn c d:=by unfold mn;grind
theorem lA {c w:Nat->Rat} {t u:Rat} {i:Nat} (hw:0 < w i) (h:t<=u):dU c w t i<=dU c w u i:=
 zMW (Rat.mul_le_mul_of_nonneg_left h (Rat.le_of_lt hw)) Rat.le_refl
theorem xV {c w:Nat->Rat} {t u:Rat} {l:List Nat} (hw:∀ i∈l,0 < w i) (h:hG (dU c w t) l=hG (dU c w u) l):∀ i∈l,dU c w t i=dU c w u i:=by
 rcases Rat.le_total (a:=t) (b:=u) with g | g
 ·exact pO (fun i hi=>lA (hw i hi) g) h
 ·exact fun i hi=>(pO (fun i hi=>lA (hw i hi) g) h.symm i hi).symm
theorem zFd {L W w c:Rat} (hW:0 < W) (h:L * w / W < c):mn (L * w / W) c=mn (w * (L / W)) c/\mn (w * (L / W)) c=w * (L / W):=by
 have e:L * w / W=w * (L / W):=by grind
 rw [e] at h ⊢
 exact ⟨rfl,if_pos h⟩
theorem zEk {r W w c:Rat} (hW:W≠0) (h:w * r<=c):mn (r * W * w / W) c=w * r:=by
 have e:r * W * w / W=w * r:=by grind
 rw [e]
 unfold mn
 grind
theorem zFv {ci wi cj wj r:Rat} (h1:0 < wi) (h2:0 < wj) (h:ci * wj<=cj * wi) (hr:wi * r<=ci):wj * r<=cj:=by
 have a:wi * r * wj<=ci * wj:=Rat.mul_le_mul_of_nonneg_right hr (Rat.le_of_lt h2)
 have b:wj * r * wi<=cj * wi:=by
  have:wj * r * wi=wi * r * wj:=by grind
  rw [this];exact Rat.le_trans a h
 exact Rat.le_of_mul_le_mul_right b h1
theorem zCV {L W w c b:Rat} (hw:0 < w) (h:¬ L * w / W < c) (hW:0 < W) (hb:b * W<=L):∃ b',b<=b'/\c<=w * b'/\b' * (W - w)<=L - c:=by
 have h1:c * W<=L * w:=by
  have h':=Rat.not_lt.mp h
  have:=Rat.mul_le_mul_of_nonneg_right h' (Rat.le_of_lt hW)
  rwa [Rat.div_mul_cancel (by grind)] at this
 have e1:w * (c / w)=c:=by grind
 have e2:c / w * (W - w)=c * W / w - c:=by grind
 have e3:c * W / w<=L:=by
  have a:c * W / w * w<=L * w:=by rw [Rat.div_mul_cancel (by grind)];exact h1
  exact Rat.le_of_mul_le_mul_right a hw
 rcases Rat.le_total (a:=b) (b:=c / w) with g | g
 ·exact ⟨c / w,g,by rw [e1];exact Rat.le_refl,by rw [e2];grind⟩
 ·refine ⟨b,Rat.le_refl,?_,?_⟩
  ·have:=Rat.mul_le_mul_of_nonneg_left g (Rat.le_of_lt hw)
   rwa [e1] at this
  ·have:=Rat.mul_le_mul_of_nonneg_left g (Rat.le_of_lt hw)
   rw [e1] at this
   grind
structure Wt (ws cs:List Int):Prop where
 len:ws.length=cs.length
 lo:∀ w∈ws,1<=w
 up:∀ w∈ws,w<=10^6
def cR (cs:List Int) (i:Nat):Rat:=((cs.getD i 0:Int):Rat)
def oJ:List (Nat×Rat)->List D->List D
 | [],am=>am
 | p::r,am=>oJ r (am.set p.1 (dq p.2))
def wS (ws:List Int) (π:List Nat):Int:=(π.map fun i=>ws.getD i 0).sum
theorem kZ (ws:List Int) (i:Nat) (π:List Nat):wS ws (i::π)=ws.getD i 0+wS ws π:=by unfold wS;rw [List.map_cons,List.sum_cons]
theorem bX {l:List Int} {i:Nat} (h:i < l.length):l[i]?=some (l.getD i 0):=by rw [List.getD_eq_getElem?_getD,List.getElem?_eq_getElem h];rfl
theorem zMs {i:Nat} {k e:Ev} {ρ:Rho} {ds:List D} {d:D} {j:Nat} (h1:e ρ=.ok d) (h2:ρ[i]?=some (.own ds)) (h3:k ρ=.ok (.int (j:Int))) (h4:j < ds.length):zMb i k e ρ=.ok (.nx (ρ.set i (.own (ds.set j d)))):=by
 unfold zMb
 rw [h1]
 show (match ρ[i]? with | some (.own ds)=>_ | _=>_)=_
 rw [h2]
 show (k ρ).bind _=_
 rw [h3]
 exact if_pos ⟨Int.natCast_nonneg j,by omega⟩
theorem zLc {ds:List D} {d:D} {i:Nat} (h:i < ds.length):oIx (.lst (ds.set i d)) (.int (i:Int))=.ok d:=by
 have e:=pY (f:=id) (l:=ds.set i d) (i:=(i:Int)) (a:=d) (Int.natCast_nonneg i) (show (ds.set i d)[i]?=some d from List.getElem?_set_self h)
 rwa [List.map_id] at e
theorem Wt.at {ws cs:List Int} (h:Wt ws cs) {i:Nat} (hi:i < cs.length):1<=ws.getD i 0/\ws.getD i 0<=10^6:=by
 have:=bX (l:=ws) (i:=i) (by rw [h.len];exact hi)
 exact ⟨h.lo _ (List.mem_of_getElem? this),h.up _ (List.mem_of_getElem? this)⟩
theorem Wt.sum {ws cs:List Int} (h:Wt ws cs):∀ {π:List Nat},(∀ i∈π,i < cs.length)->(π.length:Int)<=wS ws π/\wS ws π<=π.length * 10^6
 | [],_=>⟨Int.le_refl _,Int.le_refl _⟩
 | i::π,hi=>by
  have a:=h.at (hi i List.mem_cons_self)
  have b:=h.sum fun j hj=>hi j (List.mem_cons_of_mem _ hj)
  rw [kZ,List.length_cons]
  omega
def Sq (d:D) (l:List Int):Prop:=d=.lst (l.map D.int)∨d=.tup (l.map D.int)
theorem Sq.ix {d:D} {l:List Int} (h:Sq d l) {i:Nat} (hi:i < l.length):oIx d (.int (i:Int))=.ok (.int (l.getD i 0)):=by
 rcases h with rfl | rfl
 ·exact pY (Int.natCast_nonneg i) (bX hi)
 ·exact gG (Int.natCast_nonneg i) (bX hi)
theorem Sq.sum {d:D} {l:List Int} (h:Sq d l):zBj [d]=.ok (.int l.sum):=by
 rcases h with rfl | rfl
 ·exact bSum_l
 ·exact bSum_t
theorem Sq.len {d:D} {l:List Int} (h:Sq d l):nA [d]=.ok (.int l.length):=by
 rcases h with rfl | rfl
 ·rw [bLen_l,List.length_map]
 ·rw [bLen_t,List.length_map]
theorem Sq.seq {d:D} {l:List Int} (h:Sq d l):zHD d=.ok (l.map D.int):=by
 rcases h with rfl | rfl<;>rfl
theorem Sq.seqo {d:D} {l:List Int} (h:Sq d l):zFY d=some (l.map D.int):=by
 rcases h with rfl | rfl<;>rfl
theorem zFF {ws cs:List Int} {wd cd:D} (sw:Sq wd ws) (sc:Sq cd cs) {qv s7:Sl} {L:Rat} {W:Int} {i:Nat} {am:List D} (hW:Wt ws cs) (hc:∀ c∈cs,0<=c/\c < 10^30) {m:Nat} (hm:m<=3000) (hL:Sz (m+250) L) (W0:0 < W) (W1:W<=12 * 10^6) (hi:i < cs.length) (ha:am.length=cs.length) {a:Rat} (ea:mn (L * cR ws i / (W:Rat)) (cR cs i)=a):
  bU [.val wd,.val cd,qv,.val (dq L),.val (.int W),.own am,.val (.int (i:Nat)),s7]=
   .ok (.nx [.val wd,.val cd,qv,.val (dq (L - a)),.val (.int (W - ws.getD i 0)),.own (am.set i (dq a)),.val (.int (i:Nat)),.val (dq (L * cR ws i / (W:Rat)))]):=by
 have hiw:i < ws.length:=by rw [hW.len];exact hi
 obtain ⟨w1,w2⟩:=hW.at hi
 obtain ⟨c1,c2⟩:=hc _ (List.mem_of_getElem? (bX hi))
 have zW:Sz 24 (W:Rat):=cJ (by omega) (by decide)
 have zw:Sz 20 (cR ws i):=cJ (by omega) (by decide)
 have zc:Sz (m+294) (cR cs i):=Sz.mono (m:=100) (cJ (by omega) (by decide)) (by omega)
 have nW:(W:Rat)≠0:=by
  intro z
  have:W=0:=by exact_mod_cast z
  omega
 have fw:bN [.int (ws.getD i 0)]=.ok (.v (dq (cR ws i))):=bV _
 have fc:bN [.int (cs.getD i 0)]=.ok (.v (dq (cR cs i))):=bV _
 have zx:Sz (m+294) (L * cR ws i / (W:Rat)):=((hL.mul zw).div zW nW).mono (by omega)
 walk_at "ev"
 rw [sw.ix hiw]
 walk_at "ev"
 rw [fw]
 walk_at "ev"
 rw [mP hL zw (by omega)]
 walk_at "ev"
 rw [bV]
 walk_at "ev"
 rw [zHt (hL.mul zw) zW nW (by omega)]
 walk_at "ev"
 rw [zMs (j:=i) (d:=dq a) (ds:=am) (by
  walk_at "ev"
  rw [sc.ix hi]
  walk_at "ev"
  rw [fc]
  walk_at "ev"
  rw [zCG zx zc (by omega),ea]
  walk_at "ev") rfl rfl (by omega)]
 walk_at "ev"
 rw [zLc (by omega)]
 walk_at "ev"
 rw [eG hL (ea ▸ zIj zx zc) (by omega)]
 walk_at "ev"
 rw [sw.ix hiw]
 walk_at "ev"
theorem kP (ws:List Int):∀ π:List Nat,hG (cR ws) π=(wS ws π:Rat)
 | []=>rfl
 | i::π=>by rw [bD,kP ws π,kZ,Rat.intCast_add];rfl
theorem yZ {ws cs:List Int} {wd cd:D} (sw:Sq wd ws) (sc:Sq cd cs) {qv:Sl} {r:Rat} {m:Nat} (hm:m<=3000) (hW:Wt ws cs) (hc:∀ c∈cs,0<=c/\c < 10^30) (hr:Sz (m+150) r):∀ (π:List Nat) (am:List D) (s6 s7:Sl),(∀ i∈π,i < cs.length)->(∀ i∈π,cR ws i * r<=cR cs i)->π.length<=12->am.length=cs.length->
  ∃ l' W' s' t',dY (gName 6) bU (iU π) [.val wd,.val cd,qv,.val (dq (r * (wS ws π:Rat))),.val (.int (wS ws π)),.own am,s6,s7]=
   .ok (.nx [.val wd,.val cd,qv,l',W',.own (oJ (π.map fun i=>(i,cR ws i * r)) am),s',t'])
 | [],am,s6,s7,_,_,_,_=>⟨_,_,_,_,rfl⟩
 | i::π,am,s6,s7,h1,h2,h4,h5=>by
  have hi:=h1 i List.mem_cons_self
  obtain ⟨W1,W2⟩:=hW.sum h1
  rw [List.length_cons] at h4 W1 W2
  have zW:Sz 24 (wS ws (i::π):Rat):=cJ (by omega) (by decide)
  have nW:(wS ws (i::π):Rat)≠0:=by
   intro z
   have:wS ws (i::π)=0:=by exact_mod_cast z
   omega
  have e1:wS ws (i::π) - ws.getD i 0=wS ws π:=by rw [kZ];omega
  have e2:r * (wS ws (i::π):Rat) - cR ws i * r=r * (wS ws π:Rat):=by
   rw [kZ,Rat.intCast_add]
   show r * (cR ws i+(wS ws π:Rat)) - cR ws i * r=_
   grind
  have tn:=zFF sw sc (qv:=qv) (s7:=s7) (W:=wS ws (i::π)) (am:=am) hW hc hm ((hr.mul zW).mono (by omega)) (by omega) (by omega) hi h5 (zEk nW (h2 i List.mem_cons_self))
  rw [e1,e2] at tn
  obtain ⟨l',W',s',t',e⟩:=yZ sw sc hm hW hc hr π (am.set i (dq (cR ws i * r))) _ _ (fun j hj=>h1 j (List.mem_cons_of_mem _ hj)) (fun j hj=>h2 j (List.mem_cons_of_mem _ hj)) (by omega) (by rw [List.length_set];exact h5)
  refine ⟨l',W',s',t',?_⟩
  show dY _ _ (.int (i:Nat)::iU π) _=_
  rw [dR rfl tn,e]
  rfl
theorem yE {ws cs:List Int} {wd cd:D} (sw:Sq wd ws) (sc:Sq cd cs) {qv:Sl} {q:Rat} {m:Nat} (hm:m<=3000) (hW:Wt ws cs) (hc:∀ c∈cs,0<=c/\c < 10^30) (hq:Sz m q):∀ (π:List Nat) (k:Int) (b:Rat) (am:List D) (s6 s7:Sl),(∀ i∈π,i < cs.length)->π.Pairwise (fun i j=>cR cs i * cR ws j<=cR cs j * cR ws i)->π.length<=12->am.length=cs.length->
  0<=k->k+π.length * 10^30 < 2^110->0<=q - (k:Rat)->q - (k:Rat)<=hG (cR cs) π->b * (wS ws π:Rat)<=q - (k:Rat)->
  ∃ t,b<=t/\hG (dU (cR cs) (cR ws) t) π=q - (k:Rat)/\(∀ i∈π,Sz (m+155) (dU (cR cs) (cR ws) t i))/\∃ l' W' s' t',dY (gName 6) bU (iU π) [.val wd,.val cd,qv,.val (dq (q - (k:Rat))),.val (.int (wS ws π)),.own am,s6,s7]=
   .ok (.nx [.val wd,.val cd,qv,l',W',.own (oJ (π.map fun i=>(i,dU (cR cs) (cR ws) t i)) am),s',t'])
 | [],k,b,am,s6,s7,_,_,_,_,_,_,h6,h7,_=>⟨b,Rat.le_refl,by rw [gO] at h7 ⊢;grind,fun i h=>by (cases h),_,_,_,_,rfl⟩
 | i::π,k,b,am,s6,s7,h1,h2,h3,h4,h5,h5',h6,h7,h8=>by
  have hi:=h1 i List.mem_cons_self
  have h1':∀ j∈π,j < cs.length:=fun j hj=>h1 j (List.mem_cons_of_mem _ hj)
  obtain ⟨W1,W2⟩:=hW.sum h1
  obtain ⟨V1,V2⟩:=hW.sum h1'
  obtain ⟨w1,w2⟩:=hW.at hi
  obtain ⟨c1,c2⟩:=hc _ (List.mem_of_getElem? (bX hi))
  obtain ⟨p1,p2⟩:=List.pairwise_cons.mp h2
  rw [List.length_cons] at h3 h5' W1 W2
  have ek:((π.length+1:Nat):Int) * 10^30=(π.length:Int) * 10^30+10^30:=by rw [Int.natCast_add,Int.add_mul];rfl
  have k0:0<=(π.length:Int) * 10^30:=Int.mul_nonneg (by omega) (by decide)
  have zW:Sz 24 (wS ws (i::π):Rat):=cJ (by omega) (by decide)
  have zk:Sz 110 (k:Rat):=cJ (by omega) (by decide)
  have zL:Sz (m+111) (q - (k:Rat)):=(hq.sub zk).mono (by omega)
  have pW:(0:Rat) < (wS ws (i::π):Rat):=by exact_mod_cast (show 0 < wS ws (i::π) by omega)
  have nW:(wS ws (i::π):Rat)≠0:=fun z=>by rw [z] at pW;exact absurd pW (by decide)
  have pw:∀ j,j < cs.length->0 < cR ws j:=fun j hj=>by
   have:=(hW.at hj).1
   unfold cR
   exact_mod_cast (show 0 < ws.getD j 0 by omega)
  have e1:wS ws (i::π) - ws.getD i 0=wS ws π:=by rw [kZ];omega
  have eW:(wS ws (i::π):Rat)=cR ws i+(wS ws π:Rat):=by rw [kZ,Rat.intCast_add];rfl
  have pV:(0:Rat)<=(wS ws π:Rat):=by exact_mod_cast (show 0<=wS ws π by omega)
  generalize hL:q - (k:Rat)=L at h6 h7 h8 zL ⊢
  have loop1:∀ {a:Rat} {l' W' s' t':Sl} {am':List D},mn (L * cR ws i / (wS ws (i::π):Rat)) (cR cs i)=a->dY (gName 6) bU (iU π) [.val wd,.val cd,qv,.val (dq (L - a)),.val (.int (wS ws π)),.own (am.set i (dq a)),.val (.int (i:Nat)),.val (dq (L * cR ws i / (wS ws (i::π):Rat)))]=.ok (.nx [.val wd,.val cd,qv,l',W',.own am',s',t'])->
    dY (gName 6) bU (iU (i::π)) [.val wd,.val cd,qv,.val (dq L),.val (.int (wS ws (i::π))),.own am,s6,s7]=.ok (.nx [.val wd,.val cd,qv,l',W',.own am',s',t']):=fun {a l' W' s' t' am'} ea e=>by
   have tn:=zFF sw sc (qv:=qv) (s7:=s7) (W:=wS ws (i::π)) (am:=am) hW hc hm (zL.mono (by omega)) (by omega) (by omega) hi h4 ea
   rw [e1] at tn
   show dY _ _ (.int (i:Nat)::iU π) _=_
   rw [dR rfl tn]
   exact e
  by_cases hx:L * cR ws i / (wS ws (i::π):Rat) < cR cs i
  ·obtain ⟨x1,x2⟩:=zFd pW hx
   generalize hr:L / (wS ws (i::π):Rat)=r at x1 x2
   have zr:Sz (m+135) r:=hr ▸ (zL.div zW nW).mono (by omega)
   have eL:L=r * (wS ws (i::π):Rat):=by rw [<-hr,Rat.div_mul_cancel nW]
   have wr:cR ws i * r<=cR cs i:=by
    have e:L * cR ws i / (wS ws (i::π):Rat)=cR ws i * r:=by rw [<-hr];grind
    rw [e] at hx;exact Rat.le_of_lt hx
   have later:∀ j∈π,cR ws j * r<=cR cs j:=fun j hj=>zFv (pw i hi) (pw j (h1' j hj)) (p1 j hj) wr
   have gj:∀ j∈i::π,dU (cR cs) (cR ws) r j=cR ws j * r:=fun j hj=>by
    have:cR ws j * r<=cR cs j:=by
     rcases List.mem_cons.mp hj with rfl | hj
     ·exact wr
     ·exact later j hj
    unfold dU mn
    grind
   have e2:L - cR ws i * r=r * (wS ws π:Rat):=by rw [eL,eW];grind
   obtain ⟨l',W',s',t',e⟩:=yZ sw sc (qv:=qv) hm hW hc (zr.mono (by omega)) π (am.set i (dq (cR ws i * r))) (.val (.int (i:Nat))) (.val (dq (L * cR ws i / (wS ws (i::π):Rat)))) h1' later (by omega) (by rw [List.length_set];exact h4)
   refine ⟨r,Rat.le_of_mul_le_mul_right (by rw [<-eL];exact h8) pW,?_,fun j hj=>?_,l',W',s',t',loop1 (a:=cR ws i * r) (x1.trans x2) ?_⟩
   ·rw [dS gj,dF,kP,<-eL]
   ·rw [gj j hj]
    have v:=hW.at (h1 j hj)
    exact (Sz.mul (m:=20) (n:=m+135) (cJ (by omega) (by decide)) zr).mono (by omega)
   ·rw [e2,e,List.map_cons,oJ,gj i List.mem_cons_self]
    rw [List.map_congr_left (g:=fun j=>(j,dU (cR cs) (cR ws) r j)) fun j hj=>by rw [gj j (List.mem_cons_of_mem _ hj)]]
  ·have ea:mn (L * cR ws i / (wS ws (i::π):Rat)) (cR cs i)=cR cs i:=if_neg hx
   obtain ⟨b',g1,g2,g3⟩:=zCV (pw i hi) hx pW h8
   have ek2:q - ((k+cs.getD i 0:Int):Rat)=L - cR cs i:=by rw [Rat.intCast_add,<-hL];show q - ((k:Rat)+cR cs i)=_;grind
   have c0:0<=cR cs i:=by unfold cR;exact_mod_cast c1
   have cL:cR cs i<=L:=by
    have y:=Rat.mul_le_mul_of_nonneg_right (Rat.not_lt.mp hx) (Rat.le_of_lt pW)
    rw [Rat.div_mul_cancel nW] at y
    have y2:L * cR ws i<=L * (wS ws (i::π):Rat):=Rat.mul_le_mul_of_nonneg_left (by rw [eW];grind) h6
    exact Rat.le_of_mul_le_mul_right (Rat.le_trans y y2) pW
   rw [bD] at h7
   have g3':b' * (wS ws π:Rat)<=L - cR cs i:=by
    rw [eW] at g3
    have:cR ws i+(wS ws π:Rat) - cR ws i=(wS ws π:Rat):=by grind
    rw [this] at g3;exact g3
   obtain ⟨t,t1,t2,tz,l',W',s',t',e⟩:=yE sw sc (qv:=qv) hm hW hc hq π (k+cs.getD i 0) b' (am.set i (dq (cR cs i))) (.val (.int (i:Nat))) (.val (dq (L * cR ws i / (wS ws (i::π):Rat)))) h1' p2 (by omega) (by rw [List.length_set];exact h4) (by omega) (by omega) (by rw [ek2];grind) (by rw [ek2];grind) (by rw [ek2];exact g3')
   have gi:dU (cR cs) (cR ws) t i=cR cs i:=by
    have:=Rat.mul_le_mul_of_nonneg_left t1 (Rat.le_of_lt (pw i hi))
    unfold dU mn
    grind
   rw [ek2] at e t2
   refine ⟨t,Rat.le_trans g1 t1,?_,fun j hj=>?_,l',W',s',t',loop1 ea ?_⟩
   ·rw [bD,gi,t2];grind
   ·rcases List.mem_cons.mp hj with rfl | hj
    ·rw [gi];exact Sz.mono (m:=100) (cJ (by omega) (by decide)) (by omega)
    ·exact tz j hj
   ·rw [e,List.map_cons,oJ,gi]
theorem vB {g:Nat->Rat}:∀ (π:List Nat) (am:List D) (j:Nat),(oJ (π.map fun i=>(i,g i)) am)[j]?=if j∈π then (if j < am.length then some (dq (g j)) else none) else am[j]?
 | [],am,j=>by simp [oJ]
 | i::π,am,j=>by
  rw [List.map_cons,oJ,vB π,List.length_set]
  by_cases h1:j∈π
  ·rw [if_pos h1,if_pos (List.mem_cons_of_mem _ h1)]
  ·rw [if_neg h1]
   by_cases h2:j=i
   ·subst h2
    rw [if_pos List.mem_cons_self]
    by_cases h3:j < am.length
    ·rw [if_pos h3];exact List.getElem?_set_self h3
    ·rw [if_neg h3,List.getElem?_eq_none (by rw [List.length_set];omega)]
   ·rw [if_neg (by simp [h1,h2]),List.getElem?_set_ne (fun z=>h2 z.symm)]
theorem zCT {g:Nat->Rat} {π:List Nat} {n:Nat} (h:π.Perm (List.range n)):oJ (π.map fun i=>(i,g i)) (List.replicate n (dq 0))=((List.range n).map g).map dq:=by
 refine List.ext_getElem? fun j=>?_
 rw [vB,List.getElem?_map,List.getElem?_map,List.length_replicate]
 by_cases hj:j < n
 ·rw [if_pos (h.mem_iff.mpr (List.mem_range.mpr hj)),if_pos hj,List.getElem?_range hj];rfl
 ·rw [if_neg (fun z=>hj (List.mem_range.mp (h.mem_iff.mp z))),List.getElem?_eq_none (by rw [List.length_replicate];omega),List.getElem?_eq_none (by rw [List.length_range];omega)];rfl
theorem zAQ (kz:List Int):∃ π,fU kz π:=by
 refine ⟨(List.range kz.length).mergeSort (fun i j=>decide (kz.getD i 0<=kz.getD j 0)),List.mergeSort_perm _ _,?_⟩
 have:=List.pairwise_mergeSort (le:=fun i j=>decide (kz.getD i 0<=kz.getD j 0)) (fun a b c h1 h2=>by simp only [decide_eq_true_eq] at *;omega) (fun a b=>by simp only [Bool.or_eq_true,decide_eq_true_eq];omega) (List.range kz.length)
 exact this.imp fun h=>of_decide_eq_true h
theorem zFj {fs:Fv} {kf:List D->Res (List Int)} {g:Gv} {b r:Sv} {ρ:Rho} {kz:List Int} {x:Res Fl} (h1:(fs ρ).bind kf=.ok kz) (h:∀ π,fU kz π->bJ (fun ρ=>dY g b (iU π) ρ) r ρ=x):zFC fs kf g b r ρ=x:=by
 obtain ⟨π,hπ⟩:=zAQ kz
 unfold zFC
 rw [h1]
 exact zDg hπ h
def qQ:List Rat->Int
 | []=>1
 | x::r=>x.den * qQ r
def zFV (B:Int) (x:Rat):Int:=x.num * B.fdiv x.den
theorem zCk:∀ {l:List Rat} {x:Rat},x∈l->(x.den:Int) ∣ qQ l
 | y::r,x,h=>by
  rcases List.mem_cons.mp h with rfl | h
  ·exact ⟨qQ r,rfl⟩
  ·exact Int.dvd_trans (zCk h) ⟨y.den,Int.mul_comm _ _⟩
theorem xJ:∀ l:List Rat,0 < qQ l
 | []=>by decide
 | x::r=>Int.mul_pos (jH x) (xJ r)
theorem zHx {l:List Rat} {x:Rat} (h:x∈l):((zFV (qQ l) x:Int):Rat)=x * (qQ l:Rat):=by
 obtain ⟨k,hk⟩:=zCk h
 have d0:=jH x
 unfold zFV
 rw [fdiv_pos _ d0,hk,Int.mul_ediv_cancel_left _ (by omega),Rat.intCast_mul,Rat.intCast_mul]
 have e:x * ((x.den:Int):Rat)=(x.num:Rat):=by
  have h1:=Rat.num_divInt_den x
  rw [Rat.divInt_eq_div] at h1
  have h2:((x.den:Int):Rat)≠0:=fun z=>by
   have:(x.den:Int)=0:=by exact_mod_cast z
   omega
  rw [<-Rat.div_mul_cancel (a:=(x.num:Rat)) h2,h1]
 rw [<-e]
 grind
theorem zU {a:Sl}:∀ (l:List Rat) (B:Int) (s:Sl) (m:Nat),(∀ x∈l,(x.den:Int)<=10^6)->B.natAbs < 2^m->m+20 * l.length<=1000->
  ∃ s',dY (gName 2) uX (l.map dq) [a,.val (.int B),s]=.ok (.nx [a,.val (.int (B * qQ l)),s'])/\(B * qQ l).natAbs < 2^(m+20 * l.length)
 | [],B,s,m,_,h2,_=>⟨s,by rw [List.map_nil,dY,qQ,Int.mul_one],by rw [qQ,Int.mul_one];exact h2⟩
 | x::r,B,s,m,h1,h2,h3=>by
  have d1:=h1 x List.mem_cons_self
  have d0:=jH x
  rw [List.length_cons] at h3
  have hx:((x.den:Int)).natAbs < 2^20:=by omega
  obtain ⟨s',e,hb⟩:=zU r (B * x.den) (.val (dq x)) (m+20) (fun y hy=>h1 y (List.mem_cons_of_mem _ hy)) (dX h2 hx) (by omega)
  have ed:B * qQ (x::r)=B * x.den * qQ r:=by rw [qQ,Int.mul_assoc]
  refine ⟨s',?_,by rw [ed,List.length_cons,show m+20 * (r.length+1)=m+20+20 * r.length by omega];exact hb⟩
  rw [ed,<-e,List.map_cons]
  refine dR (ρ1:=[a,.val (.int B),.val (dq x)]) rfl ?_
  walk_at "ev"
  rw [oMul_i (bK (m:=m) (n:=20) h2 hx (by omega))]
  walk_at "ev"
theorem zBU {B:Int} (hB:B.natAbs < 2^1000):∀ {l:List Rat},(∀ x∈l,(x.den:Int)<=10^6/\Sz 500 x)->lV B (l.map dq)=.ok (l.map (zFV B))
 | [],_=>rfl
 | x::r,h=>by
  obtain ⟨d1,z⟩:=h x List.mem_cons_self
  have d0:=jH x
  have e1:kB (x.den:Int)=true:=qT (m:=20) (by omega) (by omega) (by decide)
  have e2:iV x.num (B.fdiv x.den)=true:=by
   rw [fdiv_pos _ d0]
   refine bK (m:=500) (n:=1000) z.1 (Nat.lt_of_le_of_lt ?_ hB) (by decide)
   exact Int.natAbs_ediv_le_natAbs _ _
  have k1:zFX B (dq x)=.ok (zFV B x):=by
   show (if (kB (x.den:Int) && iV x.num (B.fdiv x.den))=true then Res.ok _ else .no)=_
   rw [e1,e2];rfl
  rw [List.map_cons,lV,k1]
  show ((lV B (r.map dq)).bind fun ks=>Res.ok (zFV B x::ks))=_
  rw [zBU hB fun y hy=>h y (List.mem_cons_of_mem _ hy)]
  rfl
theorem uS {l:List Rat} (h:∀ x∈l,(x.den:Int)<=10^6/\Sz 500 x) (hl:l.length<=12):iM [.lst (l.map dq)]=.ok (l.map (zFV (qQ l))):=by
 obtain ⟨s',e,hb⟩:=zU (a:=.val (.lst (l.map dq))) l 1 .un 1 (fun x hx=>(h x hx).1) (by decide) (by omega)
 rw [Int.one_mul] at e hb
 have r1:yF (start 3 [.lst (l.map dq)])=.ok (.nx [.val (.lst (l.map dq)),.val (.int 1),.un]):=rfl
 have r2:sM [.val (.lst (l.map dq)),.val (.int 1),.un]=.ok (.nx [.val (.lst (l.map dq)),.val (.int (qQ l)),s']):=by
  walk_at "ev"
  exact e
 unfold iM vZ
 rw [if_pos (show [D.lst (l.map dq)].length=1 from rfl),r1]
 show (match sM [.val (.lst (l.map dq)),.val (.int 1),.un] with | .ok (.nx ρ')=>zBV ρ' | _=>.no)=_
 rw [r2]
 show (if (l.map dq).length < 64 then lV (qQ l) (l.map dq) else .no)=_
 rw [if_pos (by rw [List.length_map];omega)]
 exact zBU (Nat.lt_of_lt_of_le hb (Nat.pow_le_pow_right (by decide) (by omega))) h
def lvs (ws cs:List Int):List Rat:=(cs.zip ws).map fun p=>Rat.divInt p.1 p.2
theorem vK {ws cs:List Int} (h:ws.length=cs.length):(lvs ws cs).length=cs.length:=by unfold lvs;rw [List.length_map,List.length_zip,h,Nat.min_self]
theorem zEh {ws cs:List Int} {i:Nat} (h:ws.length=cs.length) (hi:i < cs.length):(lvs ws cs)[i]?=some (cR cs i / cR ws i):=by
 unfold lvs
 rw [List.getElem?_map]
 have:(cs.zip ws)[i]?=some (cs.getD i 0,ws.getD i 0):=by
  rw [List.getElem?_zip_eq_some]
  exact ⟨bX hi,bX (by omega)⟩
 rw [this]
 show some (Rat.divInt _ _)=_
 rw [Rat.divInt_eq_div]
 rfl
theorem zBP {t b:Int} (hb:0 < b):((Rat.divInt t b).den:Int)<=b:=by
 have e:=uP (t:=t) (b:=b) (by omega)
 have d0:0<=dv t b:=by unfold dv;rw [if_neg (by omega)];exact Int.natCast_nonneg _
 rw [<-e,zJE _ d0]
 exact Int.ediv_le_self _ (by omega)
theorem zHW {ws cs:List Int} (hW:Wt ws cs) (hc:∀ c∈cs,0<=c/\c < 10^30):∀ x∈lvs ws cs,(x.den:Int)<=10^6/\Sz 500 x:=fun x hx=>by
 obtain ⟨p,hp,rfl⟩:=List.mem_map.mp hx
 obtain ⟨h1,h2⟩:=List.of_mem_zip hp
 have c:=hc _ h1
 have w1:=hW.lo _ h2
 have w2:=hW.up _ h2
 have d:=zBP (t:=p.1) (b:=p.2) (by omega)
 exact ⟨by omega,Sz.of (by omega) (by omega) (by omega)⟩
theorem sK {ws cs:List Int} {wd cd:D} (sw:Sq wd ws) (sc:Sq cd cs) (hW:Wt ws cs) (hl:cs.length<=12):dN [wd,cd]=.ok (.f ((lvs ws cs).map dq)):=by
 have hw:=hW.len
 unfold dN
 walk_at "ev"
 rw [qZ sc.seqo sw.seqo]
 walk_at "ev"
 rw [kN (u:=D.int) (v:=D.int) (g:=fun c w=>dq (Rat.divInt c w)) (by omega) (fun p hp=>by
  have h2:=(List.of_mem_zip hp).2
  have w1:=hW.lo _ h2
  have w2:=hW.up _ h2
  walk_at "ev"
  rw [zAs (n:=20) (by omega) (by omega) (by decide)]
  walk_at "ev")]
 walk_at "ev"
 unfold lvs
 rw [List.map_map]
 rfl
theorem vL (ws:List Int):∀ n,n<=ws.length->wS ws (List.range n)=(ws.take n).sum
 | 0,_=>rfl
 | n+1,h=>by
  have e:wS ws (List.range n++[n])=wS ws (List.range n)+ws.getD n 0:=by unfold wS;rw [List.map_append,List.sum_append];simp
  rw [List.range_succ,e,vL ws n (by omega),List.take_succ,List.sum_append,bX (show n < ws.length by omega)]
  simp
theorem xK {ws:List Int} {π:List Nat} (h:π.Perm (List.range ws.length)):wS ws π=ws.sum:=by
 have e:=kP ws π
 rw [rN h,kP,vL ws _ (Nat.le_refl _),List.take_length] at e
 have:=Rat.intCast_inj.mp e
 omega
theorem zHv {a b:Sv} {ρ ρ':Rho} (h:a ρ=.ok (.nx ρ')):bJ a b ρ=b ρ':=by unfold bJ;rw [h];rfl
def evs (ws cs:List Int) (t:Rat):List Rat:=(List.range cs.length).map (dU (cR cs) (cR ws) t)
theorem pS {ws cs:List Int} {wd cd:D} (sw:Sq wd ws) (sc:Sq cd cs) {q:Rat} {m:Nat} (hmm:m<=3000) (hW:Wt ws cs) (hc:Cl cs) (hq:Sz m q) (h0:0<=q) (h1:q<=(cs.sum:Rat)):∃ t,0<=t/\cZ [wd,cd,dq q]=.ok (.f ((evs ws cs t).map dq))/\(evs ws cs t).sum=q/\∀ i,i < cs.length->Sz (m+155) (dU (cR cs) (cR ws) t i):=by
 have hcc:∀ c∈cs,0<=c/\c < 10^30:=fun c h=>⟨hc.nn c h,hc.up c h⟩
 have hi:=hc.hi
 have hw:=hW.len
 have hkr:=uS (zHW hW hcc) (by rw [vK hw];exact hi)
 generalize hkz:(lvs ws cs).map (zFV (qQ (lvs ws cs)))=kz at hkr
 have lz:kz.length=cs.length:=by rw [<-hkz,List.length_map,vK hw]
 have pw:∀ j,j < cs.length->0 < cR ws j:=fun j hj=>by
  have:=(hW.at hj).1
  unfold cR
  exact_mod_cast (show 0 < ws.getD j 0 by omega)
 have one:∀ π,fU kz π->∃ t,0<=t/\hG (dU (cR cs) (cR ws) t) (List.range cs.length)=q/\(∀ i,i < cs.length->Sz (m+155) (dU (cR cs) (cR ws) t i))/\bJ (fun ρ=>dY (gName 6) bU (iU π) ρ) iW [.val wd,.val cd,.val (dq q),.val (dq q),.val (.int ws.sum),.own (List.replicate cs.length (dq 0)),.un,.un]=.ok (.ret (.f ((evs ws cs t).map dq))):=by
  intro π hπ
  obtain ⟨hp,ho⟩:=hπ
  rw [lz] at hp
  have hm:∀ i∈π,i < cs.length:=fun i h=>List.mem_range.mp (hp.mem_iff.mp h)
  have hl:π.length=cs.length:=by rw [hp.length_eq,List.length_range]
  have B0:=xJ (lvs ws cs)
  have B0':(0:Rat) < (qQ (lvs ws cs):Rat):=by exact_mod_cast B0
  have kat:∀ i,i < cs.length->((kz.getD i 0:Int):Rat)=cR cs i / cR ws i * (qQ (lvs ws cs):Rat):=fun i h=>by
   have e:=zEh hw h
   have e2:kz.getD i 0=zFV (qQ (lvs ws cs)) (cR cs i / cR ws i):=by rw [<-hkz,List.getD_eq_getElem?_getD,List.getElem?_map,e];rfl
   rw [e2]
   exact zHx (List.mem_of_getElem? e)
  have ord:π.Pairwise (fun i j=>cR cs i * cR ws j<=cR cs j * cR ws i):=by
   refine List.Pairwise.imp_of_mem (fun {i j} h1 h2 h3=>?_) ho
   have h4:((kz.getD i 0:Int):Rat)<=((kz.getD j 0:Int):Rat):=Rat.intCast_le_intCast.mpr h3
   rw [kat i (hm i h1),kat j (hm j h2)] at h4
   have h5:=Rat.le_of_mul_le_mul_right h4 B0'
   have wi:=pw i (hm i h1)
   have wj:=pw j (hm j h2)
   have h6:=Rat.mul_le_mul_of_nonneg_right h5 (Rat.le_of_lt (Rat.mul_pos wi wj))
   have e1:cR cs i / cR ws i * (cR ws i * cR ws j)=cR cs i * cR ws j:=by grind
   have e2:cR cs j / cR ws j * (cR ws i * cR ws j)=cR cs j * cR ws i:=by grind
   rwa [e1,e2] at h6
  have hW':wS ws π=ws.sum:=xK (by rw [hw];exact hp)
  have hC':hG (cR cs) π=(cs.sum:Rat):=by rw [kP,xK hp]
  have z0:q - ((0:Int):Rat)=q:=by rw [show ((0:Int):Rat)=0 from rfl];grind
  obtain ⟨t,t1,t2,tz,l',W',s',t',e⟩:=yE sw sc (qv:=.val (dq q)) hmm hW hcc hq π 0 0 (List.replicate cs.length (dq 0)) .un .un hm ord (by omega) (by rw [List.length_replicate]) (by decide) (by rw [hl];omega) (by rw [z0];exact h0) (by rw [z0,hC'];exact h1) (by rw [z0];grind)
  rw [z0,hW'] at e
  rw [z0] at t2
  refine ⟨t,t1,by rw [<-rN hp];exact t2,fun i h=>tz i (hp.mem_iff.mpr (List.mem_range.mpr h)),?_⟩
  refine (zHv (a:=fun ρ=>dY (gName 6) bU (iU π) ρ) e).trans ?_
  rw [zCT hp]
  rfl
 obtain ⟨π0,hπ0⟩:=zAQ kz
 obtain ⟨t,t1,t2,tz,e0⟩:=one π0 hπ0
 have pw':∀ i∈List.range cs.length,0 < cR ws i:=fun i h=>pw i (List.mem_range.mp h)
 refine ⟨t,t1,?_,t2,tz⟩
 unfold cZ
 walk_at "ev"
 rw [sw.sum]
 walk_at "ev"
 rw [sc.len]
 walk_at "ev"
 rw [zCq (by omega)]
 walk_at "ev"
 have hfs:Res.bind ((aE (eF (eZ dN (aE (aJ 0) (aE (aJ 1) aNil)))) aNil) [.val wd,.val cd,.val (dq q),.val (dq q),.val (.int ws.sum),.own (List.replicate cs.length (dq 0)),.un,.un]) iM=.ok kz:=by
  walk_at "ev"
  rw [sK sw sc hW hi]
  walk_at "ev"
  exact hkr
 have hall:∀ π,fU kz π->bJ (fun ρ=>dY (gName 6) bU (iU π) ρ) iW [.val wd,.val cd,.val (dq q),.val (dq q),.val (.int ws.sum),.own (List.replicate cs.length (dq 0)),.un,.un]=.ok (.ret (.f ((evs ws cs t).map dq))):=fun π hπ=>by
  obtain ⟨u,_,u2,_,eu⟩:=one π hπ
  rw [eu]
  unfold evs
  rw [List.map_congr_left (xV pw' (u2.trans t2.symm))]
 unfold lU
 rw [zFj hfs hall]
 rfl
def ones (cs:List Int):List Int:=List.replicate cs.length 1
theorem iH (cs:List Int):Wt (ones cs) cs:=⟨List.length_replicate,fun w h=>by rw [(List.mem_replicate.mp h).2];decide,fun w h=>by rw [(List.mem_replicate.mp h).2];decide⟩
def hf:Rat:=Rat.divInt 1 2
theorem pK:hf=1 / 2:=by unfold hf;rw [Rat.divInt_eq_div];rfl
theorem zLS:d_HALF=dq hf:=zKJ (b:=2) (by decide)
theorem zDG:Sz 2 hf:=Sz.of (by decide) (by decide) (by decide)
theorem dbl (q:Rat):q+q=q * ((2:Int):Rat):=by rw [show ((2:Int):Rat)=2 from rfl];grind
theorem zFl {q:Rat} {n:Nat} (h:Sz n q):Sz (n+2) (q+q):=by rw [dbl];exact h.mul (cJ (by decide) (by decide))
def hvs (cs:List Int) (t:Rat):List Rat:=(List.range cs.length).map fun i=>dU (cR cs) (cR (ones cs)) t i * hf
structure Lvl (M:Nat) (ws cs:List Int) (q t:Rat):Prop where
 nn:0<=t
 sum:(evs ws cs t).sum=q
 sz:∀ i,i < cs.length->Sz M (dU (cR cs) (cR ws) t i)
theorem zY {cs:List Int} {cd:D} (sc:Sq cd cs) {q:Rat} {m:Nat} (hm:m<=2990) (hc:Cl cs) (hq:Sz m q) (h0:0<=q) (h1:q+q<=(cs.sum:Rat)):∃ t,Lvl (m+157) (ones cs) cs (q+q) t/\eI [cd,dq q]=.ok (.f ((hvs cs t).map dq)):=by
 have hi:=hc.hi
 obtain ⟨t,t1,e,t2,tz⟩:=pS (wd:=.lst ((ones cs).map D.int)) (.inl rfl) sc (m:=m+2) (by omega) (iH cs) hc (zFl hq) (by grind) h1
 refine ⟨t,⟨t1,t2,fun i h=>(tz i h).mono (by omega)⟩,?_⟩
 have eo:(ones cs).map D.int=List.replicate cs.length (.int 1):=by unfold ones;rw [List.map_replicate]
 rw [eo] at e
 have hh:=zLS
 unfold d_HALF at hh
 unfold eI
 walk_at "ev"
 rw [sc.len]
 walk_at "ev"
 rw [zCq (by omega)]
 walk_at "ev"
 rw [zBL hq hq (by omega)]
 walk_at "ev"
 rw [e]
 walk_at "ev"
 rw [show (evs (ones cs) cs t).map dq=(List.range cs.length).map (fun i=>dq (dU (cR cs) (cR (ones cs)) t i)) by unfold evs;rw [List.map_map];rfl]
 rw [fO (u:=fun i=>dq (dU (cR cs) (cR (ones cs)) t i)) (g:=fun i=>dq (dU (cR cs) (cR (ones cs)) t i * hf)) (by rw [List.length_range];omega) (fun i h=>by
  have hil:=List.mem_range.mp h
  walk_at "ev"
  rw [hh,mP (tz i hil) zDG (by omega)]
  walk_at "ev")]
 walk_at "ev"
 unfold hvs
 rw [List.map_map]
 rfl
theorem Lvl.mono {M M':Nat} {ws cs:List Int} {q t:Rat} (h:Lvl M ws cs q t) (l:M<=M'):Lvl M' ws cs q t:=⟨h.nn,h.sum,fun i hi=>(h.sz i hi).mono l⟩
theorem jP {w v:Str} (h:aT.lookup w=some v):cI [.str w]=.ok (.v .non):=by
 unfold cI
 walk_at "ev"
 rw [h]
 rfl
theorem kF {cs:List Int} {cd:D} (sc:Sq cd cs) (hc:Cl cs):cE [cd]=.ok (.v .non):=by
 have lo:=hc.lo
 unfold cE
 walk_at "ev"
 rw [sc.len]
 walk_at "ev"
 rw [decide_eq_false (by omega)]
 walk_at "ev"
 rw [sc.seq]
 walk_at "ev"
 refine zEl (Q:=fun r=>r=(.ok (.v .non):Res Rt)) (fun ρ=>∃ a,ρ=[.val cd,a]) ⟨_,rfl⟩ ?_ ?_
 ·rintro e ρ he ⟨a,rfl⟩
  obtain ⟨c,h,rfl⟩:=List.mem_map.mp he
  have:=hc.nn c h
  refine ⟨_,?_,.val (.int c),rfl⟩
  walk_at "ev"
  rw [decide_eq_false (by omega)]
  walk_at "ev"
 ·rintro ρ ⟨a,rfl⟩
  rfl
theorem qC {q:Rat} {W:Int} {m:Nat} (hm:m<=3000) (h:Haul m q W) (hW:W.natAbs < 2^110):dE [dq q,dq (W:Rat)]=.ok (.v .non):=by
 have z0:Sz 1 (0:Rat):=⟨by decide,by decide⟩
 have zW:Sz 110 (W:Rat):=cJ hW (by decide)
 have n1:¬ q < 0:=Rat.not_lt.mpr h.nn
 have n2:¬ (W:Rat) < q:=Rat.not_lt.mpr h.up
 have io:fS [dq q,dq (W:Rat)]=.ok (.v (.bl false)):=by
  unfold fS
  walk_at "ev"
  rw [nZ h.sz z0 (by omega),decide_eq_false n1]
  walk_at "ev"
  rw [nZ zW h.sz (by omega),decide_eq_false n2]
  walk_at "ev"
 unfold dE
 walk_at "ev"
 rw [io]
 walk_at "ev"
theorem kE {α β:Type} (l:List α) (f:Nat->β) (d:α):l.zip ((List.range l.length).map f)=(List.range l.length).map fun i=>(l.getD i d,f i):=by
 refine List.ext_getElem? fun i=>?_
 rw [List.getElem?_map]
 by_cases h:i < l.length
 ·rw [List.getElem?_range h]
  refine List.getElem?_zip_eq_some.mpr ⟨?_,by rw [List.getElem?_map,List.getElem?_range h];rfl⟩
  show l[i]?=some (l.getD i d)
  rw [List.getD_eq_getElem?_getD,List.getElem?_eq_getElem h];rfl
 ·rw [List.getElem?_eq_none (by rw [List.length_zip];omega),List.getElem?_eq_none (by rw [List.length_range];omega)];rfl
theorem iJ {w:Str} {d:D} {n:Int} (hd:d=.lst []∨d=.tup []) (hw:oIn (.str w) d_WEIGHTED=.ok (.bl false)):bF [.str w,d,.int n]=.ok (.v .non):=by
 have sq:zHD d=.ok []:=by rcases hd with rfl | rfl<;>rfl
 have ln:nA [d]=.ok (.int 0):=by rcases hd with rfl | rfl<;>rfl
 unfold d_WEIGHTED at hw
 unfold bF
 walk_at "ev"
 rw [hw]
 walk_at "ev"
 rw [ln]
 walk_at "ev"
 rw [sq]
 rfl
theorem zNi:qE 10 6=true:=by decide
theorem nL {w:Str} {ws cs:List Int} {wd:D} (sw:Sq wd ws) (hW:Wt ws cs) (hw:oIn (.str w) d_WEIGHTED=.ok (.bl true)):bF [.str w,wd,.int cs.length]=.ok (.v .non):=by
 have hl:=hW.len
 unfold d_WEIGHTED at hw
 unfold bF
 walk_at "ev"
 rw [hw]
 walk_at "ev"
 rw [sw.len]
 walk_at "ev"
 rw [hl,decide_eq_true rfl]
 walk_at "ev"
 rw [sw.seq]
 walk_at "ev"
 refine zEl (Q:=fun r=>r=(.ok (.v .non):Res Rt)) (fun ρ=>∃ a,ρ=[.val (.str w),.val wd,.val (.int cs.length),.val (.int cs.length),a]) ⟨_,rfl⟩ ?_ ?_
 ·rintro e ρ he ⟨a,rfl⟩
  obtain ⟨c,h,rfl⟩:=List.mem_map.mp he
  have h1:=hW.lo c h
  have h2:=hW.up c h
  refine ⟨_,?_,.val (.int c),rfl⟩
  walk_at "ev"
  rw [decide_eq_false (by omega)]
  walk_at "ev"
  rw [oPow_i zNi]
  walk_at "ev"
  rw [decide_eq_false (by omega)]
  walk_at "ev"
 ·rintro ρ ⟨a,rfl⟩
  rfl
theorem zNB:(Str.ofString "even" == Str.ofString "row")=false:=by decide
theorem zNv:(Str.ofString "lack" == Str.ofString "row")=false:=by decide
theorem zNW:(Str.ofString "lack" == Str.ofString "even")=false:=by decide
theorem zNH:(Str.ofString "lack" == Str.ofString "part")=false:=by decide
theorem zNK:(Str.ofString "lack" == Str.ofString "half")=false:=by decide
theorem zBZ:(aT.lookup (Str.ofString "even"))=some (Str.ofString "lack"):=by decide
theorem vW:(aT.lookup (Str.ofString "lack"))=some (Str.ofString "even"):=by decide
theorem zHA {n:Nat} {ws cs:List Int} {wd cd:D} (sw:Sq wd ws) (sc:Sq cd cs) {q:Rat} {m:Nat} (hm:m<=3000) (hW:Wt ws cs) (hc:Cl cs) (hq:Sz m q) (h0:0<=q) (h1:q<=(cs.sum:Rat)):∃ t,Lvl (m+155) ws cs q t/\aN (n+1) [.str (Str.ofString "even"),wd,cd,dq q]=.ok (.f ((evs ws cs t).map dq)):=by
 obtain ⟨t,t1,e,t2,tz⟩:=pS sw sc hm hW hc hq h0 h1
 refine ⟨t,⟨t1,t2,tz⟩,?_⟩
 show aS (aN n) _=_
 unfold aS
 walk_at "ev"
 rw [sc.sum]
 walk_at "ev"
 rw [bV]
 walk_at "ev"
 rw [zNB]
 walk_at "ev"
 rw [e]
 walk_at "ev"
def lks (ws cs:List Int) (t:Rat):List Rat:=(cs.zip (evs ws cs t)).map fun p=>(p.1:Rat) - p.2
theorem zKH (ws cs:List Int) (t:Rat):lks ws cs t=(List.range cs.length).map fun i=>cR cs i - dU (cR cs) (cR ws) t i:=by
 unfold lks evs
 rw [kE cs _ 0,List.map_map]
 rfl
theorem zLM {n:Nat} {ws cs:List Int} {wd cd:D} (sw:Sq wd ws) (sc:Sq cd cs) {q:Rat} {m:Nat} (hm:m<=2890) (hW:Wt ws cs) (hc:Cl cs) (hq:Haul m q cs.sum):∃ t,Lvl (m+261) ws cs ((cs.sum:Rat) - q) t/\aN (n+2) [.str (Str.ofString "lack"),wd,cd,dq q]=.ok (.f ((lks ws cs t).map dq)):=by
 have sm:=hc.sum
 have hi:=hc.hi
 have zW:Sz 105 (cs.sum:Rat):=cJ (by omega) (by decide)
 have zT:Sz (m+106) ((cs.sum:Rat) - q):=(zW.sub hq.sz).mono (by omega)
 have u:=hq.up
 have u':=hq.nn
 obtain ⟨t,tl,e⟩:=zHA sw sc (n:=n) (m:=m+106) (by omega) hW hc zT (by grind) (by grind)
 refine ⟨t,tl,?_⟩
 show aS (aN (n+1)) _=_
 unfold aS
 walk_at "ev"
 rw [sc.sum]
 walk_at "ev"
 rw [bV]
 walk_at "ev"
 rw [zNv]
 walk_at "ev"
 rw [zNW]
 walk_at "ev"
 rw [zNH]
 walk_at "ev"
 rw [zNK]
 walk_at "ev"
 rw [show rY aT (.str (Str.ofString "lack"))=.ok (.str (Str.ofString "even")) by show zJW (aT.lookup (Str.ofString "lack"))=_;rw [vW];rfl]
 walk_at "ev"
 rw [eG zW hq.sz (by omega)]
 walk_at "ev"
 rw [e]
 walk_at "ev"
 rw [qZ sc.seqo rfl]
 walk_at "ev"
 rw [kN (u:=D.int) (v:=dq) (g:=fun c l=>dq ((c:Rat) - l)) (by omega) (fun p hp=>by
  have hp':=hp
  unfold evs at hp'
  rw [kE cs _ 0] at hp'
  obtain ⟨i,hir,rfl⟩:=List.mem_map.mp hp'
  have hil:=List.mem_range.mp hir
  have c1:=hc.nn _ (List.mem_of_getElem? (bX hil))
  have c2:=hc.up _ (List.mem_of_getElem? (bX hil))
  walk_at "ev"
  rw [bV]
  walk_at "ev"
  rw [eG (m:=100) (n:=m+261) (cJ (by omega) (by decide)) (tl.sz i hil) (by omega)]
  walk_at "ev")]
 walk_at "ev"
 unfold lks
 rw [List.map_map]
 rfl
theorem zNf:(Str.ofString "half" == Str.ofString "row")=false:=by decide
theorem zMq:(Str.ofString "half" == Str.ofString "even")=false:=by decide
theorem zMJ:(Str.ofString "half" == Str.ofString "part")=false:=by decide
theorem wK:(aT.lookup (Str.ofString "half"))=some (Str.ofString "half"):=by decide
theorem zEr {n:Nat} {e:D} {cs:List Int} {cd:D} (sc:Sq cd cs) {q:Rat} {m:Nat} (hm:m<=2990) (hc:Cl cs) (hq:Sz m q) (h0:0<=q) (h1:q+q<=(cs.sum:Rat)):∃ t,Lvl (m+157) (ones cs) cs (q+q) t/\aN (n+1) [.str (Str.ofString "half"),e,cd,dq q]=.ok (.f ((hvs cs t).map dq)):=by
 have sm:=hc.sum
 have zW:Sz 105 (cs.sum:Rat):=cJ (by omega) (by decide)
 obtain ⟨t,tl,ee⟩:=zY sc hm hc hq h0 h1
 refine ⟨t,tl,?_⟩
 show aS (aN n) _=_
 unfold aS
 walk_at "ev"
 rw [sc.sum]
 walk_at "ev"
 rw [bV]
 walk_at "ev"
 rw [zNf]
 walk_at "ev"
 rw [zMq]
 walk_at "ev"
 rw [zMJ]
 walk_at "ev"
 rw [zBL hq hq (by omega)]
 walk_at "ev"
 rw [nZ zW (zFl hq) (by omega),decide_eq_false (Rat.not_lt.mpr h1)]
 walk_at "ev"
 rw [ee]
 walk_at "ev"
def lhs (cs:List Int) (t:Rat):List Rat:=(List.range cs.length).map fun i=>cR cs i - dU (cR cs) (cR (ones cs)) t i * hf
theorem zJh {n:Nat} {e:D} {cs:List Int} {cd:D} (sc:Sq cd cs) {q:Rat} {m:Nat} (hm:m<=2880) (hc:Cl cs) (hq:Haul m q cs.sum) (h1:(cs.sum:Rat) < q+q):∃ t,Lvl (m+263) (ones cs) cs (((cs.sum:Rat) - q)+((cs.sum:Rat) - q)) t/\aN (n+2) [.str (Str.ofString "half"),e,cd,dq q]=.ok (.f ((lhs cs t).map dq)):=by
 have sm:=hc.sum
 have hi:=hc.hi
 have zW:Sz 105 (cs.sum:Rat):=cJ (by omega) (by decide)
 have zT:Sz (m+106) ((cs.sum:Rat) - q):=(zW.sub hq.sz).mono (by omega)
 have u:=hq.up
 obtain ⟨t,tl,ee⟩:=zEr sc (n:=n) (e:=e) (m:=m+106) (by omega) hc zT (by grind) (by grind)
 refine ⟨t,tl,?_⟩
 show aS (aN (n+1)) _=_
 unfold aS
 walk_at "ev"
 rw [sc.sum]
 walk_at "ev"
 rw [bV]
 walk_at "ev"
 rw [zNf]
 walk_at "ev"
 rw [zMq]
 walk_at "ev"
 rw [zMJ]
 walk_at "ev"
 rw [zBL hq.sz hq.sz (by omega)]
 walk_at "ev"
 rw [nZ zW (zFl hq.sz) (by omega),decide_eq_true h1]
 walk_at "ev"
 rw [show rY aT (.str (Str.ofString "half"))=.ok (.str (Str.ofString "half")) by show zJW (aT.lookup (Str.ofString "half"))=_;rw [wK];rfl]
 walk_at "ev"
 rw [eG zW hq.sz (by omega)]
 walk_at "ev"
 rw [ee]
 walk_at "ev"
 rw [qZ sc.seqo rfl]
 walk_at "ev"
 rw [kN (u:=D.int) (v:=dq) (g:=fun c l=>dq ((c:Rat) - l)) (by omega) (fun p hp=>by
  have hp':=hp
  unfold hvs at hp'
  rw [kE cs _ 0] at hp'
  obtain ⟨i,hir,rfl⟩:=List.mem_map.mp hp'
  have hil:=List.mem_range.mp hir
  have c1:=hc.nn _ (List.mem_of_getElem? (bX hil))
  have c2:=hc.up _ (List.mem_of_getElem? (bX hil))
  walk_at "ev"
  rw [bV]
  walk_at "ev"
  rw [eG (m:=100) (n:=m+263+2) (cJ (by omega) (by decide)) ((tl.sz i hil).mul zDG) (by omega)]
  walk_at "ev")]
 walk_at "ev"
 unfold hvs lhs
 rw [kE cs _ 0,List.map_map,List.map_map]
 rfl
theorem zNV:(Str.ofString "back" == Str.ofString "row")=false:=by decide
theorem zNq:(Str.ofString "back" == Str.ofString "even")=false:=by decide
theorem zNN:(Str.ofString "back" == Str.ofString "part")=false:=by decide
theorem zNQ:(Str.ofString "back" == Str.ofString "half")=false:=by decide
theorem zNy:(Str.ofString "part" == Str.ofString "row")=false:=by decide
theorem zNu:(Str.ofString "part" == Str.ofString "even")=false:=by decide
theorem zDE:(aT.lookup (Str.ofString "row"))=some (Str.ofString "back"):=by decide
theorem wO:(aT.lookup (Str.ofString "back"))=some (Str.ofString "row"):=by decide
theorem zCb:(aT.lookup (Str.ofString "part"))=some (Str.ofString "part"):=by decide
theorem zLr {n:Nat} {d e:D} {cs:List Int} {q:Rat} (hd:d=.lst (cs.map D.int)∨d=.tup (cs.map D.int)) {m:Nat} (hm:m<=3000) (hc:Cl cs) (hq:Sz m q) (h0:0<=q):aN (n+1) [.str (Str.ofString "row"),e,d,dq q]=.ok (.f ((iC cs 0 q).map dq)):=by
 have su:zBj [d]=.ok (.int cs.sum):=by rcases hd with rfl | rfl;exact bSum_l;exact bSum_t
 show aS (aN n) _=_
 unfold aS
 walk_at "ev"
 rw [su]
 walk_at "ev"
 rw [bV]
 walk_at "ev"
 rw [zAK hd hm hc hq h0]
 walk_at "ev"
theorem zKr {n:Nat} {d e:D} {cs:List Int} {q:Rat} (hd:d=.lst (cs.map D.int)∨d=.tup (cs.map D.int)) {m:Nat} (hm:m<=3000) (hc:Cl cs) (hq:Sz m q):aN (n+1) [.str (Str.ofString "part"),e,d,dq q]=.ok (.f ((wY cs q).map dq)):=by
 have su:zBj [d]=.ok (.int cs.sum):=by rcases hd with rfl | rfl;exact bSum_l;exact bSum_t
 show aS (aN n) _=_
 unfold aS
 walk_at "ev"
 rw [su]
 walk_at "ev"
 rw [bV]
 walk_at "ev"
 rw [zNy]
 walk_at "ev"
 rw [zNu]
 walk_at "ev"
 rw [zN hd hm hc hq]
 walk_at "ev"
theorem zId (f g:Nat->Rat):∀ n:Nat,((List.range n).map fun i=>f i - g i).sum=((List.range n).map f).sum - ((List.range n).map g).sum
 | 0=>by simp only [List.range_zero,List.map_nil,List.sum_nil];grind
 | n+1=>by
  rw [List.range_succ,List.map_append,List.map_append,List.map_append,List.sum_append,List.sum_append,List.sum_append,zId f g n]
  simp only [List.map_cons,List.map_nil,List.sum_cons,List.sum_nil]
  grind
theorem pT (cs:List Int):((List.range cs.length).map (cR cs)).sum=(cs.sum:Rat):=by
 have e:=kP cs (List.range cs.length)
 rw [vL cs _ (Nat.le_refl _),List.take_length] at e
 exact e
theorem mB {ws cs:List Int} {t:Rat} (hW:Wt ws cs) (hc:Cl cs) (h0:0<=t) {i:Nat} (hi:i < cs.length):0<=dU (cR cs) (cR ws) t i/\dU (cR cs) (cR ws) t i<=cR cs i:=by
 have w:=(hW.at hi).1
 have c:=hc.nn _ (List.mem_of_getElem? (bX hi))
 have w':(0:Rat)<=cR ws i:=by unfold cR;exact_mod_cast (show 0<=ws.getD i 0 by omega)
 have c':(0:Rat)<=cR cs i:=by unfold cR;exact_mod_cast c
 have:=Rat.mul_nonneg w' h0
 unfold dU mn
 grind
theorem zCu (l:List Int):dep (.lst (l.map D.int))<=2:=by
 have:depS (l.map D.int)<=1:=by
  induction l with
  | nil=>exact Nat.zero_le _
  | cons a l ih=>rw [List.map_cons];show max 0 (depS (l.map D.int))<=1;omega
 show depS (l.map D.int)+1<=2
 omega
theorem zKh (x:Rat):(x.num:Rat)=x * ((x.den:Int):Rat):=by
 have d0:=jH x
 have nd:((x.den:Int):Rat)≠0:=fun z=>by
  have:(x.den:Int)=0:=by exact_mod_cast z
  omega
 have h1:=Rat.num_divInt_den x
 rw [Rat.divInt_eq_div] at h1
 rw [<-Rat.div_mul_cancel (a:=(x.num:Rat)) nd,h1]
theorem zFL {l:List Rat} {n:Nat} (h:l.length=n):l=(List.range n).map fun i=>l.getD i 0:=by
 refine List.ext_getElem? fun i=>?_
 rw [List.getElem?_map]
 by_cases hi:i < n
 ·rw [List.getElem?_range hi,List.getElem?_eq_getElem (by omega)]
  show _=some (l.getD i 0)
  rw [List.getD_eq_getElem?_getD,List.getElem?_eq_getElem (by omega)];rfl
 ·rw [List.getElem?_eq_none (by omega),List.getElem?_eq_none (by rw [List.length_range];omega)];rfl
def zDx (cs:List Int) (q:Rat) (i:Nat):Rat:=(iC cs 0 q).getD i 0
theorem zFn:∀ (cs:List Int) (a:Int) (q:Rat) (i:Nat),(∀ c∈cs,0<=c)->i < cs.length->0<=(iC cs a q).getD i 0/\(iC cs a q).getD i 0<=cR cs i
 | c::r,a,q,0,h,_=>by
  have c0:(0:Rat)<=(c:Rat):=by exact_mod_cast h c List.mem_cons_self
  show 0<=mn (ps0 (q - (a:Rat))) (c:Rat)/\mn (ps0 (q - (a:Rat))) (c:Rat)<=(c:Rat)
  unfold mn ps0
  grind
 | c::r,a,q,i+1,h,hi=>zFn r (a+c) q i (fun x hx=>h x (List.mem_cons_of_mem _ hx)) (by rw [List.length_cons] at hi;omega)
theorem sE:∀ (cs:List Int) (a:Int) {q q':Rat} (i:Nat),q<=q'->(iC cs a q).getD i 0<=(iC cs a q').getD i 0
 | [],_,_,_,_,_=>Rat.le_refl
 | c::r,a,q,q',0,h=>by
  show mn (ps0 (q - (a:Rat))) (c:Rat)<=mn (ps0 (q' - (a:Rat))) (c:Rat)
  unfold mn ps0
  grind
 | c::r,a,q,q',i+1,h=>sE r (a+c) i h
theorem zBG:∀ (cs:List Int) (a:Int) (q:Rat),(∀ c∈cs,0<=c)->0<=cs.sum/\(iC cs a q).sum=mn (ps0 (q - (a:Rat))) (cs.sum:Rat)
 | [],a,q,_=>⟨Int.le_refl _,by show (0:Rat)=mn (ps0 _) ((0:Int):Rat);rw [show ((0:Int):Rat)=0 from rfl];unfold mn ps0;grind⟩
 | c::r,a,q,h=>by
  have c0:=h c List.mem_cons_self
  obtain ⟨s0,e⟩:=zBG r (a+c) q fun x hx=>h x (List.mem_cons_of_mem _ hx)
  have c0':(0:Rat)<=(c:Rat):=by exact_mod_cast c0
  have s0':(0:Rat)<=(r.sum:Rat):=by exact_mod_cast s0
  rw [List.sum_cons]
  refine ⟨by omega,?_⟩
  rw [iC,List.sum_cons,e,Rat.intCast_add,Rat.intCast_add]
  unfold mn ps0
  grind
theorem zEd {q:Rat} {m:Nat} (hq:Sz m q):∀ (cs:List Int) (a:Int),(∀ c∈cs,0<=c)->(∀ c∈cs,c < 10^30)->0<=a->a+cs.length * 10^30 < 2^110->∀ x∈iC cs a q,Sz (m+111) x
 | [],_,_,_,_,_,x,hx=>by cases hx
 | c::r,a,h1,h2,h3,h4,x,hx=>by
  have c0:=h1 c List.mem_cons_self
  have c1:=h2 c List.mem_cons_self
  rw [List.length_cons] at h4
  have e4:((r.length+1:Nat):Int) * 10^30=(r.length:Int) * 10^30+10^30:=by rw [Int.natCast_add,Int.add_mul];rfl
  have r0:0<=(r.length:Int) * 10^30:=Int.mul_nonneg (by omega) (by decide)
  rw [iC] at hx
  rcases List.mem_cons.mp hx with rfl | hx
  ·exact zIj (zLo (hq.sub (cJ (n:=110) (by omega) (by decide))) (by omega)) (Sz.mono (m:=100) (cJ (by omega) (by decide)) (by omega))
  ·exact zEd hq r (a+c) (fun x hx=>h1 x (List.mem_cons_of_mem _ hx)) (fun x hx=>h2 x (List.mem_cons_of_mem _ hx)) (by omega) (by omega) x hx
theorem zBq {cs:List Int} {q:Rat} {m:Nat} (hc:Cl cs) (hq:Sz m q) (h0:0<=q) (h1:q<=(cs.sum:Rat)):(iC cs 0 q=(List.range cs.length).map (zDx cs q))/\(iC cs 0 q).sum=q/\∀ x∈iC cs 0 q,Sz (m+111) x:=by
 have hi:=hc.hi
 refine ⟨zFL (zAb _ _ _),?_,zEd hq cs 0 hc.nn hc.up (by decide) (by omega)⟩
 rw [(zBG cs 0 q hc.nn).2,show ((0:Int):Rat)=0 from rfl]
 unfold mn ps0
 grind
theorem zKg {n:Nat} {e:D} {cs:List Int} {cd:D} (sc:Sq cd cs) {q:Rat} {m:Nat} (hm:m<=2890) (hc:Cl cs) (hq:Haul m q cs.sum):aN (n+2) [.str (Str.ofString "back"),e,cd,dq q]=.ok (.f (((List.range cs.length).map fun i=>cR cs i - zDx cs ((cs.sum:Rat) - q) i).map dq)):=by
 have sm:=hc.sum
 have hi:=hc.hi
 have zW:Sz 105 (cs.sum:Rat):=cJ (by omega) (by decide)
 have zT:Sz (m+106) ((cs.sum:Rat) - q):=(zW.sub hq.sz).mono (by omega)
 have u:=hq.up
 have u':=hq.nn
 obtain ⟨r1,r2,r3⟩:=zBq hc zT (by grind) (by grind)
 have ee:=zLr (n:=n) (e:=e) sc (m:=m+106) (by omega) hc zT (by grind)
 show aS (aN (n+1)) _=_
 unfold aS
 walk_at "ev"
 rw [sc.sum]
 walk_at "ev"
 rw [bV]
 walk_at "ev"
 rw [zNV]
 walk_at "ev"
 rw [zNq]
 walk_at "ev"
 rw [zNN]
 walk_at "ev"
 rw [zNQ]
 walk_at "ev"
 rw [show rY aT (.str (Str.ofString "back"))=.ok (.str (Str.ofString "row")) by show zJW (aT.lookup (Str.ofString "back"))=_;rw [wO];rfl]
 walk_at "ev"
 rw [eG zW hq.sz (by omega)]
 walk_at "ev"
 rw [ee]
 walk_at "ev"
 rw [qZ sc.seqo rfl]
 walk_at "ev"
 rw [kN (u:=D.int) (v:=dq) (g:=fun c l=>dq ((c:Rat) - l)) (by omega) (fun p hp=>by
  obtain ⟨p1,p2⟩:=List.of_mem_zip hp
  have c1:=hc.nn _ p1
  have c2:=hc.up _ p1
  walk_at "ev"
  rw [bV]
  walk_at "ev"
  rw [eG (m:=100) (n:=m+106+111) (cJ (by omega) (by decide)) (r3 _ p2) (by omega)]
  walk_at "ev")]
 walk_at "ev"
 rw [r1,kE cs _ 0,List.map_map,List.map_map]
 rfl
def iY (cs:List Int) (q:Rat) (i:Nat):Rat:=(wY cs q).getD i 0
theorem zCr {cs:List Int} {q:Rat} {i:Nat} (hi:i < cs.length):iY cs q i=Rat.divInt (cs.getD i 0 * q.num) (max 1 cs.sum * q.den):=by
 unfold iY wY
 rw [List.getD_eq_getElem?_getD,List.getElem?_map,bX hi]
 rfl
theorem kK {cs:List Int} {q:Rat} (hc:Cl cs) {i:Nat} (hi:i < cs.length):iY cs q i * (cs.sum:Rat)=q * cR cs i/\(cs.sum=0->iY cs q i=0):=by
 have sm:=hc.sum
 have e:=zCr (q:=q) hi
 by_cases z:cs.sum=0
 ·have c0:=nY hc.nn z _ (List.mem_of_getElem? (bX hi))
  have p0:iY cs q i=0:=by rw [e,c0,Int.zero_mul,Rat.zero_divInt]
  refine ⟨?_,fun _=>p0⟩
  rw [p0]
  unfold cR
  rw [c0,show ((0:Int):Rat)=0 from rfl]
  grind
 ·have W0:0 < cs.sum:=by omega
  have nW:(cs.sum:Rat)≠0:=fun y=>by
   have:cs.sum=0:=by exact_mod_cast y
   omega
  refine ⟨?_,fun y=>absurd y z⟩
  rw [e,Int.max_eq_right (by omega),<-zDO W0]
  show q / (cs.sum:Rat) * cR cs i * (cs.sum:Rat)=_
  grind
theorem zFI {cs:List Int} {q:Rat} {m:Nat} (hc:Cl cs) (hq:Sz m q) {i:Nat} (hi:i < cs.length):Sz (m+370) (iY cs q i):=by
 have sm:=hc.sum
 have c1:=hc.nn _ (List.mem_of_getElem? (bX hi))
 have c2:=hc.up _ (List.mem_of_getElem? (bX hi))
 rw [zCr hi]
 have d0:=jH q
 have p:=Int.mul_pos (show 0 < max 1 cs.sum by omega) d0
 exact Sz.of (by omega) (Nat.lt_of_lt_of_le (dX (m:=100) (n:=m) (by omega) hq.1) (Nat.pow_le_pow_right (by decide) (by omega))) (Nat.lt_of_lt_of_le (dX (m:=110) (n:=m) (by omega) hq.d) (Nat.pow_le_pow_right (by decide) (by omega)))
inductive Wy where
 | row | back | even | lack | part | half
def Wy.s:Wy->Str
 | .row=>Str.ofString "row"
 | .back=>Str.ofString "back"
 | .even=>Str.ofString "even"
 | .lack=>Str.ofString "lack"
 | .part=>Str.ofString "part"
 | .half=>Str.ofString "half"
def Wy.due (w:Wy) (ws cs:List Int):Prop:=match w with
 | .even=>Wt ws cs
 | .lack=>Wt ws cs
 | _=>ws=[]
def Al (M:Nat) (ws cs:List Int) (q:Rat) (f:Nat->Rat):Wy->Prop
 | .row=>∀ i,i < cs.length->f i=zDx cs q i
 | .back=>∀ i,i < cs.length->f i=cR cs i - zDx cs ((cs.sum:Rat) - q) i
 | .even=>∃ t,Lvl M ws cs q t/\∀ i,i < cs.length->f i=dU (cR cs) (cR ws) t i
 | .lack=>∃ t,Lvl M ws cs ((cs.sum:Rat) - q) t/\∀ i,i < cs.length->f i=cR cs i - dU (cR cs) (cR ws) t i
 | .part=>∀ i,i < cs.length->f i=iY cs q i
 | .half=>∃ t,(q+q<=(cs.sum:Rat)/\Lvl M (ones cs) cs (q+q) t/\∀ i,i < cs.length->f i=dU (cR cs) (cR (ones cs)) t i * hf)∨((cs.sum:Rat) < q+q/\Lvl M (ones cs) cs (((cs.sum:Rat) - q)+((cs.sum:Rat) - q)) t/\∀ i,i < cs.length->f i=cR cs i - dU (cR cs) (cR (ones cs)) t i * hf)
theorem yS {w:Wy} {ws cs:List Int} {wd cd:D} (sw:Sq wd ws) (sc:Sq cd cs) {q:Rat} {m:Nat} (hm:m<=2880) (hw:w.due ws cs) (hc:Cl cs) (hq:Haul m q cs.sum):∃ f,aN 2 [.str w.s,wd,cd,dq q]=.ok (.f (((List.range cs.length).map f).map dq))/\Al (m+263) ws cs q f w:=by
 have z:=hq.sz
 cases w with
 | row=>exact ⟨zDx cs q,by rw [<-(zBq hc z hq.nn hq.up).1];exact zLr sc (by omega) hc z hq.nn,fun i _=>rfl⟩
 | back=>exact ⟨_,zKg sc (by omega) hc hq,fun i _=>rfl⟩
 | even=>
  obtain ⟨t,tl,e⟩:=zHA sw sc (n:=1) (by omega) hw hc z hq.nn hq.up
  exact ⟨_,e,t,tl.mono (by omega),fun i _=>rfl⟩
 | lack=>
  obtain ⟨t,tl,e⟩:=zLM sw sc (n:=0) (by omega) hw hc hq
  rw [zKH] at e
  exact ⟨_,e,t,tl.mono (by omega),fun i _=>rfl⟩
 | part=>
  refine ⟨iY cs q,?_,fun i _=>rfl⟩
  have e:wY cs q=(List.range cs.length).map (iY cs q):=zFL (by unfold wY;rw [List.length_map])
  rw [<-e]
  exact zKr sc (by omega) hc z
 | half=>
  by_cases h:(cs.sum:Rat) < q+q
  ·obtain ⟨t,tl,e⟩:=zJh sc (n:=0) (e:=wd) (by omega) hc hq h
   exact ⟨_,e,t,.inr ⟨h,tl,fun i _=>rfl⟩⟩
  ·obtain ⟨t,tl,e⟩:=zEr sc (n:=1) (e:=wd) (by omega) hc z hq.nn (Rat.not_lt.mp h)
   exact ⟨_,e,t,.inl ⟨Rat.not_lt.mp h,tl.mono (by omega),fun i _=>rfl⟩⟩
theorem zJc (w:Wy):∃ v,aT.lookup w.s=some v:=by
 cases w
 ·exact ⟨_,zDE⟩
 ·exact ⟨_,wO⟩
 ·exact ⟨_,zBZ⟩
 ·exact ⟨_,vW⟩
 ·exact ⟨_,zCb⟩
 ·exact ⟨_,wK⟩
theorem zBK {w:Wy} {ws cs:List Int} {wd cd:D} (sw:Sq wd ws) (sc:Sq cd cs) (hw:w.due ws cs) (hc:Cl cs):cN [.str w.s,wd,cd]=.ok (.v .non):=by
 have rw':bF [.str w.s,wd,.int cs.length]=.ok (.v .non):=by
  cases w with
  | even=>exact nL sw hw rfl
  | lack=>exact nL sw hw rfl
  | row=>have e:ws=[]:=hw;rw [e] at sw;exact iJ sw rfl
  | back=>have e:ws=[]:=hw;rw [e] at sw;exact iJ sw rfl
  | part=>have e:ws=[]:=hw;rw [e] at sw;exact iJ sw rfl
  | half=>have e:ws=[]:=hw;rw [e] at sw;exact iJ sw rfl
 obtain ⟨v,hv⟩:=zJc w
 unfold cN
 walk_at "ev"
 rw [jP hv]
 walk_at "ev"
 rw [kF sc hc]
 walk_at "ev"
 rw [sc.len]
 walk_at "ev"
 rw [rw']
 walk_at "ev"
theorem zJj {w:Wy} {ws cs:List Int} {wd cd:D} (sw:Sq wd ws) (sc:Sq cd cs) {q:Rat} {m:Nat} (hm:m<=2880) (hw:w.due ws cs) (hc:Cl cs) (hq:Haul m q cs.sum):∃ f,sR [.str w.s,wd,cd,dq q]=.ok (.f (((List.range cs.length).map f).map dq))/\Al (m+263) ws cs q f w:=by
 obtain ⟨f,rd,al⟩:=yS sw sc hm hw hc hq
 have sm:=hc.sum
 refine ⟨f,?_,al⟩
 unfold sR
 walk_at "ev"
 rw [zBK sw sc hw hc]
 walk_at "ev"
 rw [sc.sum]
 walk_at "ev"
 rw [bV]
 walk_at "ev"
 rw [qC (by omega) hq (by omega)]
 walk_at "ev"
 rw [rd]
 walk_at "ev"
structure Dl (M:Nat) (cs:List Int) (q:Rat) (f:Nat->Rat):Prop where
 bd:∀ i,i < cs.length->0<=f i/\f i<=cR cs i/\Sz M (f i)
 sum:((List.range cs.length).map f).sum=q
theorem yN {f g:Nat->Rat} {n:Nat} (h:∀ i,i < n->f i=g i):((List.range n).map f).sum=((List.range n).map g).sum:=by rw [List.map_congr_left fun i hi=>h i (List.mem_range.mp hi)]
theorem Dl.congr {M:Nat} {cs:List Int} {q:Rat} {f g:Nat->Rat} (d:Dl M cs q g) (h:∀ i,i < cs.length->f i=g i):Dl M cs q f:=⟨fun i hi=>by rw [h i hi];exact d.bd i hi,by rw [yN h];exact d.sum⟩
theorem Dl.mono {M M':Nat} {cs:List Int} {q:Rat} {f:Nat->Rat} (d:Dl M cs q f) (h:M<=M'):Dl M' cs q f:=⟨fun i hi=>⟨(d.bd i hi).1,(d.bd i hi).2.1,(d.bd i hi).2.2.mono h⟩,d.sum⟩
theorem zGP {cs:List Int} (hc:Cl cs) {i:Nat} (hi:i < cs.length):0<=cR cs i/\Sz 100 (cR cs i):=by
 have c1:=hc.nn _ (List.mem_of_getElem? (bX hi))
 have c2:=hc.up _ (List.mem_of_getElem? (bX hi))
 exact ⟨by unfold cR;exact_mod_cast c1,cJ (by omega) (by decide)⟩
theorem Dl.dual {M:Nat} {cs:List Int} {q q':Rat} {g:Nat->Rat} (hc:Cl cs) (d:Dl M cs q' g) (h:q'=(cs.sum:Rat) - q):Dl (100+M+1) cs q (fun i=>cR cs i - g i):=by
 refine ⟨fun i hi=>?_,?_⟩
 ·obtain ⟨b1,b2,b3⟩:=d.bd i hi
  exact ⟨by grind,by grind,(zGP hc hi).2.sub b3⟩
 ·rw [zId,pT,d.sum]
  grind
theorem zHq {m:Nat} {cs:List Int} {q:Rat} (hc:Cl cs) (hq:Sz m q) (h0:0<=q) (h1:q<=(cs.sum:Rat)):Dl (m+111) cs q (zDx cs q):=by
 obtain ⟨e,s,z⟩:=zBq hc hq h0 h1
 refine ⟨fun i hi=>?_,by rw [<-e];exact s⟩
 obtain ⟨b1,b2⟩:=zFn cs 0 q i hc.nn hi
 exact ⟨b1,b2,z _ (by rw [e];exact List.mem_map.mpr ⟨i,List.mem_range.mpr hi,rfl⟩)⟩
theorem zIc {M:Nat} {ws cs:List Int} {q t:Rat} (hW:Wt ws cs) (hc:Cl cs) (tl:Lvl M ws cs q t):Dl M cs q (dU (cR cs) (cR ws) t):=
 ⟨fun i hi=>⟨(mB hW hc tl.nn hi).1,(mB hW hc tl.nn hi).2,tl.sz i hi⟩,tl.sum⟩
theorem zEH {M:Nat} {cs:List Int} {q t:Rat} (hc:Cl cs) (tl:Lvl M (ones cs) cs (q+q) t):Dl (M+2) cs q (fun i=>dU (cR cs) (cR (ones cs)) t i * hf):=by
 refine ⟨fun i h=>?_,?_⟩
 ·obtain ⟨b1,b2⟩:=mB (iH cs) hc tl.nn h
  exact ⟨by rw [pK];grind,by rw [pK];grind,(tl.sz i h).mul zDG⟩
 ·have e:=tl.sum
  have e2:=dF (w:=dU (cR cs) (cR (ones cs)) t) (t:=hf) (l:=List.range cs.length)
  unfold evs at e
  unfold hG at e2
  rw [e2,e,pK]
  grind
theorem zIR {a b s:Rat} (hs:s≠0) (h:a * s=b * s):a=b:=by
 have e1:a * s / s=a:=by grind
 have e2:b * s / s=b:=by grind
 rw [<-e1,<-e2,h]
theorem qB {a b s:Rat} (hs:0 < s) (h:a * s<=b * s):a<=b:=Rat.le_of_mul_le_mul_right h hs
theorem zIM {m:Nat} {cs:List Int} {q:Rat} (hc:Cl cs) (hq:Sz m q) (h0:0<=q) (h1:q<=(cs.sum:Rat)):Dl (m+370) cs q (iY cs q):=by
 have sm:=hc.sum
 have cn:∀ i,i < cs.length->0<=cR cs i:=fun i hi=>(zGP hc hi).1
 have sc:hG (fun i=>iY cs q i * (cs.sum:Rat)) (List.range cs.length)=q * (cs.sum:Rat):=by
  rw [dS (g:=fun i=>cR cs i * q) fun i hi=>by rw [(kK hc (List.mem_range.mp hi)).1];grind]
  rw [dF,show hG (cR cs) (List.range cs.length)=(cs.sum:Rat) from pT cs]
 rw [dF] at sc
 by_cases z:cs.sum=0
 ·have p0:∀ i,i < cs.length->iY cs q i=cR cs i:=fun i hi=>by
   have c0:=nY hc.nn z _ (List.mem_of_getElem? (bX hi))
   rw [(kK hc hi).2 z]
   unfold cR
   rw [c0]
   rfl
  refine ⟨fun i hi=>⟨by rw [p0 i hi];exact cn i hi,by rw [p0 i hi];exact Rat.le_refl,zFI hc hq hi⟩,?_⟩
  rw [yN p0,pT]
  have:(cs.sum:Rat)=0:=by rw [z];rfl
  grind
 ·have W:(0:Rat) < (cs.sum:Rat):=by exact_mod_cast (show 0 < cs.sum by omega)
  refine ⟨fun i hi=>?_,?_⟩
  ·have e:=(kK (q:=q) hc hi).1
   have c0:=cn i hi
   refine ⟨qB W (by rw [e];have:=Rat.mul_nonneg h0 c0;grind),qB W ?_,zFI hc hq hi⟩
   rw [e]
   have:=Rat.mul_le_mul_of_nonneg_right h1 c0
   grind
  ·exact zIR (s:=(cs.sum:Rat)) (by grind) (by rw [Rat.mul_comm];exact sc)
theorem zIP {m:Nat} {w:Wy} {ws cs:List Int} {q:Rat} {f:Nat->Rat} (hw:w.due ws cs) (hc:Cl cs) (hq:Haul m q cs.sum) (al:Al (m+263) ws cs q f w):Dl (m+370) cs q f:=by
 have sm:=hc.sum
 have zW:Sz 105 (cs.sum:Rat):=cJ (by omega) (by decide)
 have z:=hq.sz
 have z':Sz (m+106) ((cs.sum:Rat) - q):=(zW.sub hq.sz).mono (by omega)
 have n:=hq.nn
 have u:=hq.up
 cases w with
 | row=>exact ((zHq hc z n u).mono (by omega)).congr al
 | back=>exact ((Dl.dual hc (zHq hc z' (by grind) (by grind)) rfl).mono (by omega)).congr al
 | even=>
  obtain ⟨t,tl,e⟩:=al
  exact ((zIc hw hc tl).mono (by omega)).congr e
 | lack=>
  obtain ⟨t,tl,e⟩:=al
  exact ((Dl.dual hc (zIc hw hc tl) rfl).mono (by omega)).congr e
 | part=>exact (zIM hc z n u).congr al
 | half=>
  obtain ⟨t,⟨c,tl,e⟩ | ⟨c,tl,e⟩⟩:=al
  ·exact ((zEH hc tl).mono (by omega)).congr e
  ·exact ((Dl.dual hc (zEH hc tl) rfl).mono (by omega)).congr e
theorem zBx:∀ (cs:List Int) (a:Int) (q:Rat) (i:Nat),i < cs.length->(iC cs a q).getD i 0=mn (ps0 (q - ((a+(cs.take i).sum:Int):Rat))) (cR cs i)
 | c::r,a,q,0,_=>by simp [iC,cR]
 | c::r,a,q,i+1,h=>by
  have ih:=zBx r (a+c) q i (by simpa using h)
  rw [List.take_succ_cons,List.sum_cons,<-Int.add_assoc]
  show (iC r (a+c) q).getD i 0=_
  rw [ih]
  rfl
def Dn (B:Int) (x:Rat):Prop:=∃ k:Int,x * (B:Rat)=(k:Rat)
theorem Dn.add {B:Int} {x y:Rat} (hx:Dn B x) (hy:Dn B y):Dn B (x+y):=by
 obtain ⟨a,ha⟩:=hx
 obtain ⟨b,hb⟩:=hy
 exact ⟨a+b,by rw [Rat.intCast_add,<-ha,<-hb];grind⟩
theorem Dn.sub {B:Int} {x y:Rat} (hx:Dn B x) (hy:Dn B y):Dn B (x - y):=by
 obtain ⟨a,ha⟩:=hx
 obtain ⟨b,hb⟩:=hy
 exact ⟨a - b,by rw [Rat.intCast_sub,<-ha,<-hb];grind⟩
theorem Dn.int (B c:Int):Dn B (c:Rat):=⟨c * B,by rw [Rat.intCast_mul]⟩
theorem Dn.zero (B:Int):Dn B 0:=Dn.int B 0
theorem Dn.mn {B:Int} {x y:Rat} (hx:Dn B x) (hy:Dn B y):Dn B (Lw.mn x y):=by
 unfold Lw.mn
 split
 ·exact hx
 ·exact hy
theorem Dn.ps {B:Int} {x:Rat} (hx:Dn B x):Dn B (ps0 x):=by
 unfold ps0
 split
 ·exact Dn.zero B
 ·exact hx
theorem Dn.le {B:Int} {x:Rat} (h:Dn B x) (hB:0 < B):(x.den:Int)<=B:=by
 obtain ⟨a,ha⟩:=h
 have nB:(B:Rat)≠0:=fun z=>by
  have:B=0:=by exact_mod_cast z
  omega
 have e:x=Rat.divInt a B:=by
  rw [Rat.divInt_eq_div,<-ha]
  grind
 rw [e]
 exact zBP hB
theorem Dn.sz {B c:Int} {x:Rat} {a b:Nat} (h:Dn B x) (hB:0 < B) (hb:B < 2^b) (h0:0<=x) (h1:x<=(c:Rat)) (hc:c < 2^a):Sz (a+b) x:=by
 have le:=h.le hB
 have d0:=jH x
 have n0:0<=x.num:=Rat.num_nonneg.mpr h0
 have c0:0<=c:=by
  have:((0:Int):Rat)<=(c:Rat):=Rat.le_trans (by rw [show ((0:Int):Rat)=0 from rfl];exact h0) h1
  exact Rat.intCast_le_intCast.mp this
 have n1:x.num<=c * x.den:=by
  have:((x.num:Int):Rat)<=((c * x.den:Int):Rat):=by
   rw [Rat.intCast_mul,zKh]
   exact Rat.mul_le_mul_of_nonneg_right h1 (by have z:(0:Int)<=x.den:=(by omega);exact_mod_cast z)
  exact Rat.intCast_le_intCast.mp this
 have hb':(x.den:Int).natAbs < 2^b:=by
  have:((2:Nat)^b:Nat)=((2:Int)^b):=by rw [Int.natCast_pow];rfl
  omega
 have ha':c.natAbs < 2^a:=by
  have:((2:Nat)^a:Nat)=((2:Int)^a):=by rw [Int.natCast_pow];rfl
  omega
 have m:=dX ha' hb'
 refine ⟨by omega,?_⟩
 have:2^b<=2^(a+b):=Nat.pow_le_pow_right (by decide) (by omega)
 omega
theorem yY {c w:Nat->Rat} {ci wi:Nat->Int} {t:Rat} (hc:∀ i,c i=(ci i:Rat)) (hw:∀ i,w i=(wi i:Rat)):∀ l:List Nat,(∀ i∈l,1<=wi i/\wi i<=10^6)->∃ F W:Int,hG (dU c w t) l=(W:Rat) * t+(F:Rat)/\0<=W/\W<=l.length * 10^6/\(W=0->∀ i∈l,dU c w t i=c i)
 | [],_=>⟨0,0,by rw [gO,show ((0:Int):Rat)=0 from rfl];grind,by decide,by decide,fun _ i h=>by cases h⟩
 | i::l,h=>by
  obtain ⟨F,W,e,w0,w1,f⟩:=yY (t:=t) hc hw l fun j hj=>h j (List.mem_cons_of_mem _ hj)
  have hi:=h i List.mem_cons_self
  have ek:((l.length+1:Nat):Int) * 10^6=(l.length:Int) * 10^6+10^6:=by rw [Int.natCast_add,Int.add_mul];rfl
  rw [bD,List.length_cons]
  by_cases z:w i * t < c i
  ·have g:dU c w t i=w i * t:=if_pos z
   refine ⟨F,W+wi i,?_,by omega,by omega,fun z=>by omega⟩
   rw [g,e,Rat.intCast_add,hw]
   grind
  ·have g:dU c w t i=c i:=if_neg z
   refine ⟨F+ci i,W,?_,w0,by omega,fun z j hj=>?_⟩
   ·rw [g,e,Rat.intCast_add,hc]
    grind
   ·rcases List.mem_cons.mp hj with rfl | hj
    ·exact g
    ·exact f z j hj
theorem zNR {M:Nat} {ws cs:List Int} {q t:Rat} {B:Int} (hW:Wt ws cs) (hl:cs.length<=12) (tl:Lvl M ws cs q t) (hq:Dn B q):∃ E:Int,0 < E/\E<=12 * 10^6/\∀ i,i < cs.length->Dn (B * E) (dU (cR cs) (cR ws) t i):=by
 obtain ⟨F,W,e,w0,w1,f⟩:=yY (c:=cR cs) (w:=cR ws) (ci:=fun i=>cs.getD i 0) (wi:=fun i=>ws.getD i 0) (t:=t) (fun _=>rfl) (fun _=>rfl) (List.range cs.length) fun i hi=>hW.at (List.mem_range.mp hi)
 have s:hG (dU (cR cs) (cR ws) t) (List.range cs.length)=q:=tl.sum
 rw [List.length_range] at w1
 by_cases z:W=0
 ·refine ⟨1,by decide,by decide,fun i hi=>?_⟩
  rw [f z i (List.mem_range.mpr hi)]
  exact Dn.int _ _
 ·refine ⟨W,by omega,by omega,fun i hi=>?_⟩
  unfold dU
  refine Dn.mn ?_ (Dn.int _ _)
  obtain ⟨k,hk⟩:=hq.sub (Dn.int B F)
  refine ⟨ws.getD i 0 * k,?_⟩
  rw [Rat.intCast_mul,Rat.intCast_mul,<-hk,<-s,e]
  show cR ws i * t * _=cR ws i * _
  grind
theorem zNe {B:Int} {x:Rat} (h:Dn B x):Dn (B * 2) (x * hf):=by
 obtain ⟨k,hk⟩:=h
 refine ⟨k,?_⟩
 rw [<-hk,Rat.intCast_mul,pK,show ((2:Int):Rat)=2 from rfl]
 grind
theorem zNS {cs:List Int} {q:Rat} {B:Int} (h:Dn B q) {i:Nat} (hi:i < cs.length):Dn B (zDx cs q i):=by
 unfold zDx
 rw [zBx cs 0 q i hi]
 exact Dn.mn (Dn.ps (h.sub (Dn.int _ _))) (Dn.int _ _)
theorem Al.mono {M M':Nat} {w:Wy} {ws cs:List Int} {q:Rat} {f:Nat->Rat} (h:Al M ws cs q f w) (l:M<=M'):Al M' ws cs q f w:=by
 cases w with
 | row=>exact h
 | back=>exact h
 | part=>exact h
 | even=>obtain ⟨t,tl,e⟩:=h;exact ⟨t,tl.mono l,e⟩
 | lack=>obtain ⟨t,tl,e⟩:=h;exact ⟨t,tl.mono l,e⟩
 | half=>
  obtain ⟨t,⟨c,tl,e⟩ | ⟨c,tl,e⟩⟩:=h
  ·exact ⟨t,.inl ⟨c,tl.mono l,e⟩⟩
  ·exact ⟨t,.inr ⟨c,tl.mono l,e⟩⟩
theorem zLU (q:Rat):Sz (q.num.natAbs+q.den) q:=⟨Nat.lt_of_lt_of_le Nat.lt_two_pow_self (Nat.pow_le_pow_right (by decide) (by omega)),Nat.lt_of_lt_of_le Nat.lt_two_pow_self (Nat.pow_le_pow_right (by decide) (by omega))⟩
theorem zNh {M:Nat} {w:Wy} {ws cs:List Int} {q:Rat} {f:Nat->Rat} (hw:w.due ws cs) (hc:Cl cs) (q0:0<=q) (q1:q<=(cs.sum:Rat)) (al:Al M ws cs q f w):(∀ i,i < cs.length->0<=f i/\f i<=cR cs i)/\((List.range cs.length).map f).sum=q:=by
 have d:=zIP (m:=q.num.natAbs+q.den+M) hw hc ⟨q0,q1,(zLU q).mono (by omega)⟩ (al.mono (by omega))
 exact ⟨fun i hi=>⟨(d.bd i hi).1,(d.bd i hi).2.1⟩,d.sum⟩
theorem kM {M M':Nat} {ws cs:List Int} {q q' t t':Rat} (hW:Wt ws cs) (a:Lvl M ws cs q t) (b:Lvl M' ws cs q' t') (h:q=q') {i:Nat} (hi:i < cs.length):dU (cR cs) (cR ws) t i=dU (cR cs) (cR ws) t' i:=by
 have pw:∀ j∈List.range cs.length,0 < cR ws j:=fun j hj=>by
  have:=(hW.at (List.mem_range.mp hj)).1
  unfold cR
  exact_mod_cast (show 0 < ws.getD j 0 by omega)
 exact xV (c:=cR cs) (w:=cR ws) pw (by show (evs ws cs t).sum=(evs ws cs t').sum;rw [a.sum,b.sum,h]) i (List.mem_range.mpr hi)
theorem zLk {M M':Nat} {w:Wy} {ws cs:List Int} {q:Rat} {f g:Nat->Rat} (hw:w.due ws cs) (a:Al M ws cs q f w) (b:Al M' ws cs q g w) {i:Nat} (hi:i < cs.length):f i=g i:=by
 cases w with
 | row=>rw [a i hi,b i hi]
 | back=>rw [a i hi,b i hi]
 | part=>rw [a i hi,b i hi]
 | even=>
  obtain ⟨t,tl,e⟩:=a
  obtain ⟨t',tl',e'⟩:=b
  rw [e i hi,e' i hi,kM hw tl tl' rfl hi]
 | lack=>
  obtain ⟨t,tl,e⟩:=a
  obtain ⟨t',tl',e'⟩:=b
  rw [e i hi,e' i hi,kM hw tl tl' rfl hi]
 | half=>
  have W:=iH cs
  obtain ⟨t,⟨c,tl,e⟩ | ⟨c,tl,e⟩⟩:=a
  ·obtain ⟨t',⟨c',tl',e'⟩ | ⟨c',tl',e'⟩⟩:=b
   ·rw [e i hi,e' i hi,kM W tl tl' rfl hi]
   ·exact absurd c' (Rat.not_lt.mpr c)
  ·obtain ⟨t',⟨c',tl',e'⟩ | ⟨c',tl',e'⟩⟩:=b
   ·exact absurd c (Rat.not_lt.mpr c')
   ·rw [e i hi,e' i hi,kM W tl tl' rfl hi]
theorem qP {M M':Nat} {ws cs:List Int} {q q' t t':Rat} (hW:Wt ws cs) (a:Lvl M ws cs q t) (b:Lvl M' ws cs q' t') (h:q<=q') {i:Nat} (hi:i < cs.length):dU (cR cs) (cR ws) t i<=dU (cR cs) (cR ws) t' i:=by
 have pw:∀ j∈List.range cs.length,0 < cR ws j:=fun j hj=>by
  have:=(hW.at (List.mem_range.mp hj)).1
  unfold cR
  exact_mod_cast (show 0 < ws.getD j 0 by omega)
 rcases Rat.le_total (a:=t) (b:=t') with g | g
 ·exact lA (pw i (List.mem_range.mpr hi)) g
 ·have le:∀ j∈List.range cs.length,dU (cR cs) (cR ws) t' j<=dU (cR cs) (cR ws) t j:=fun j hj=>lA (pw j hj) g
  have s1:hG (dU (cR cs) (cR ws) t') (List.range cs.length)=q':=b.sum
  have s2:hG (dU (cR cs) (cR ws) t) (List.range cs.length)=q:=a.sum
  have s3:=pF le
  rw [pO le (by rw [s1,s2];rw [s1,s2] at s3;grind) i (List.mem_range.mpr hi)]
  exact Rat.le_refl
theorem zJy {M M':Nat} {w:Wy} {ws cs:List Int} {q q':Rat} {f g:Nat->Rat} (hw:w.due ws cs) (hc:Cl cs) (a:Al M ws cs q f w) (b:Al M' ws cs q' g w) (h:q<=q') {i:Nat} (hi:i < cs.length):f i<=g i:=by
 have sm:=hc.sum
 cases w with
 | row=>rw [a i hi,b i hi];exact sE cs 0 i h
 | back=>
  rw [a i hi,b i hi]
  have:=sE cs 0 (q:=(cs.sum:Rat) - q') (q':=(cs.sum:Rat) - q) i (by grind)
  unfold zDx
  grind
 | even=>
  obtain ⟨t,tl,e⟩:=a
  obtain ⟨t',tl',e'⟩:=b
  rw [e i hi,e' i hi]
  exact qP hw tl tl' h hi
 | lack=>
  obtain ⟨t,tl,e⟩:=a
  obtain ⟨t',tl',e'⟩:=b
  rw [e i hi,e' i hi]
  have:=qP hw tl' tl (by grind) hi
  grind
 | part=>
  rw [a i hi,b i hi]
  have c0:0<=cR cs i:=by unfold cR;exact_mod_cast hc.nn _ (List.mem_of_getElem? (bX hi))
  obtain ⟨p1,p2⟩:=kK (q:=q) hc hi
  obtain ⟨r1,r2⟩:=kK (q:=q') hc hi
  by_cases z:cs.sum=0
  ·rw [p2 z,r2 z];exact Rat.le_refl
  ·have W:(0:Rat) < (cs.sum:Rat):=by exact_mod_cast (show 0 < cs.sum by omega)
   exact qB W (by rw [p1,r1];exact Rat.mul_le_mul_of_nonneg_right h c0)
 | half=>
  have ow:=iH cs
  obtain ⟨t,⟨c,tl,e⟩ | ⟨c,tl,e⟩⟩:=a
  ·have b1:=(mB ow hc tl.nn hi).2
   obtain ⟨t',⟨c',tl',e'⟩ | ⟨c',tl',e'⟩⟩:=b
   ·have:=qP ow tl tl' (by grind) hi
    rw [e i hi,e' i hi,pK]
    grind
   ·have b2:=(mB ow hc tl'.nn hi).2
    rw [e i hi,e' i hi,pK]
    grind
  ·obtain ⟨t',⟨c',tl',e'⟩ | ⟨c',tl',e'⟩⟩:=b
   ·exfalso;grind
   ·have:=qP ow tl' tl (by grind) hi
    rw [e i hi,e' i hi,pK]
    grind
def Wy.con:Wy->Wy
 | .row=>.back
 | .back=>.row
 | .even=>.lack
 | .lack=>.even
 | .part=>.part
 | .half=>.half
theorem zCM {M:Nat} {ws cs:List Int} {q t:Rat} (hW:Wt ws cs) (hc:Cl cs) (a:Lvl M ws cs q t) (h:q=(cs.sum:Rat)) {i:Nat} (hi:i < cs.length):dU (cR cs) (cR ws) t i=cR cs i:=by
 have s:hG (dU (cR cs) (cR ws) t) (List.range cs.length)=q:=a.sum
 exact pO (fun j hj=>(mB hW hc a.nn (List.mem_range.mp hj)).2) (by rw [s,h];exact (pT cs).symm) i (List.mem_range.mpr hi)
theorem zLZ {M M':Nat} {w:Wy} {ws cs:List Int} {q:Rat} {f g:Nat->Rat} (hw:w.due ws cs) (hc:Cl cs) (hn:0<=q) (hu:q<=(cs.sum:Rat)) (a:Al M ws cs q f w) (b:Al M' ws cs ((cs.sum:Rat) - q) g w.con) {i:Nat} (hi:i < cs.length):g i=cR cs i - f i:=by
 have sm:=hc.sum
 have e0:(cs.sum:Rat) - ((cs.sum:Rat) - q)=q:=by grind
 cases w with
 | row=>
  have b':g i=cR cs i - zDx cs ((cs.sum:Rat) - ((cs.sum:Rat) - q)) i:=b i hi
  rw [b',e0,a i hi]
 | back=>
  have b':g i=zDx cs ((cs.sum:Rat) - q) i:=b i hi
  rw [b',a i hi]
  grind
 | even=>
  obtain ⟨t,tl,e⟩:=a
  obtain ⟨t',tl',e'⟩:=b
  rw [e i hi,e' i hi,kM hw tl' tl e0 hi]
 | lack=>
  obtain ⟨t,tl,e⟩:=a
  obtain ⟨t',tl',e'⟩:=b
  rw [e i hi,e' i hi,kM hw tl' tl rfl hi]
  grind
 | part=>
  have b':g i=iY cs ((cs.sum:Rat) - q) i:=b i hi
  have u:=hu
  have n:=hn
  obtain ⟨p1,p2⟩:=kK (q:=q) hc hi
  obtain ⟨r1,r2⟩:=kK (q:=(cs.sum:Rat) - q) hc hi
  rw [b',a i hi]
  by_cases z:cs.sum=0
  ·have c0:=nY hc.nn z _ (List.mem_of_getElem? (bX hi))
   rw [p2 z,r2 z]
   unfold cR
   rw [c0,show ((0:Int):Rat)=0 from rfl]
   grind
  ·have W:(0:Rat) < (cs.sum:Rat):=by exact_mod_cast (show 0 < cs.sum by omega)
   have e:iY cs ((cs.sum:Rat) - q) i * (cs.sum:Rat)=(cR cs i - iY cs q i) * (cs.sum:Rat):=by rw [r1];grind
   have l1:=qB W (show iY cs ((cs.sum:Rat) - q) i * (cs.sum:Rat)<=(cR cs i - iY cs q i) * (cs.sum:Rat) by rw [e];exact Rat.le_refl)
   have l2:=qB W (show (cR cs i - iY cs q i) * (cs.sum:Rat)<=iY cs ((cs.sum:Rat) - q) i * (cs.sum:Rat) by rw [e];exact Rat.le_refl)
   grind
 | half=>
  have ow:=iH cs
  obtain ⟨t,⟨c,tl,e⟩ | ⟨c,tl,e⟩⟩:=a
  ·obtain ⟨t',⟨c',tl',e'⟩ | ⟨c',tl',e'⟩⟩:=b
   ·have f1:=zCM ow hc tl (by grind) hi
    have f2:=zCM ow hc tl' (by grind) hi
    rw [e i hi,e' i hi,f1,f2,pK]
    grind
   ·have f1:=kM ow tl' tl (by grind) hi
    rw [e i hi,e' i hi,f1]
  ·obtain ⟨t',⟨c',tl',e'⟩ | ⟨c',tl',e'⟩⟩:=b
   ·have f1:=kM ow tl' tl rfl hi
    rw [e i hi,e' i hi,f1]
    grind
   ·exfalso;grind
theorem zBD {w:Wy} {ws cs:List Int} (h:w.due ws cs):w.con.due ws cs:=by cases w<;>exact h
def Lin (f:Rat->Rat) (a b:Rat):Prop:=∀ x,a<=x->x<=b->(f x - f a) * (b - a)=(x - a) * (f b - f a)
def Cn (R:Rat->Rat->Prop):List Rat->Prop
 | a::b::l=>R a b/\Cn R (b::l)
 | _=>True
theorem Cn.imp {R R':Rat->Rat->Prop} (h:∀ a b,R a b->R' a b):∀ {l:List Rat},Cn R l->Cn R' l
 | [],_=>trivial
 | [_],_=>trivial
 | a::b::l,k=>⟨h a b k.1,Cn.imp h k.2⟩
theorem rW {A:List Rat}:∀ {l:List Rat},l.Pairwise (·<=·)->(∀ x∈A,x∈l∨∀ y∈l,x<=y)->Cn (fun s t=>s<=t/\∀ x∈A,x<=s∨t<=x) l
 | [],_,_=>trivial
 | [_],_,_=>trivial
 | a::b::r,h,hA=>by
  obtain ⟨h1,h2⟩:=List.pairwise_cons.mp h
  obtain ⟨h3,h4⟩:=List.pairwise_cons.mp h2
  refine ⟨⟨h1 b List.mem_cons_self,fun x hx=>?_⟩,rW h2 fun x hx=>?_⟩
  ·rcases hA x hx with h | h
   ·rcases List.mem_cons.mp h with rfl | h
    ·exact .inl Rat.le_refl
    ·rcases List.mem_cons.mp h with rfl | h
     ·exact .inr Rat.le_refl
     ·exact .inr (h3 x h)
   ·exact .inl (h a List.mem_cons_self)
  ·rcases hA x hx with h | h
   ·rcases List.mem_cons.mp h with rfl | h
    ·exact .inr h1
    ·exact .inl h
   ·exact .inr fun y hy=>h y (List.mem_cons_of_mem _ hy)
def QQ (ws cs:List Int) (t:Rat):Rat:=hG (dU (cR cs) (cR ws) t) (List.range cs.length)
def lv (ws cs:List Int) (i:Nat):Rat:=cR cs i / cR ws i
theorem Wt.pos {ws cs:List Int} (h:Wt ws cs) {i:Nat} (hi:i < cs.length):0 < cR ws i:=by
 have:=(h.at hi).1
 unfold cR
 exact_mod_cast (show 0 < ws.getD i 0 by omega)
theorem zCi {ws cs:List Int} (h:Wt ws cs) {i:Nat} (hi:i < cs.length):cR ws i * lv ws cs i=cR cs i:=by
 have:=h.pos hi
 unfold lv
 grind
theorem zEo {ws cs:List Int} (h:Wt ws cs) {i:Nat} (hi:i < cs.length) {t:Rat} (l:lv ws cs i<=t):dU (cR cs) (cR ws) t i=cR cs i:=by
 have p:=h.pos hi
 have e:=zCi h hi
 have:=Rat.mul_le_mul_of_nonneg_left l (Rat.le_of_lt p)
 unfold dU mn
 grind
theorem zFR {ws cs:List Int} (h:Wt ws cs) {i:Nat} (hi:i < cs.length) {t:Rat} (l:t<=lv ws cs i):dU (cR cs) (cR ws) t i=cR ws i * t:=by
 have p:=h.pos hi
 have e:=zCi h hi
 have:=Rat.mul_le_mul_of_nonneg_left l (Rat.le_of_lt p)
 unfold dU mn
 grind
theorem zGg {ws cs:List Int} (h:Wt ws cs) (hc:Cl cs) {i:Nat} (hi:i < cs.length):0<=lv ws cs i:=by
 have p:=h.pos hi
 have c:=(zGP hc hi).1
 have e:=zCi h hi
 rcases Rat.le_total (a:=0) (b:=lv ws cs i) with z | z
 ·exact z
 ·have:=Rat.mul_le_mul_of_nonneg_left z (Rat.le_of_lt p)
  have z2:cR cs i=0:=by grind
  unfold lv
  rw [z2]
  grind
def sl (ws cs:List Int) (s:Rat) (i:Nat):Rat:=if lv ws cs i<=s then 0 else cR ws i
theorem zCs {f g:Nat->Rat}:∀ {l:List Nat},hG (fun i=>f i - g i) l=hG f l - hG g l
 | []=>by rw [gO,gO,gO];grind
 | a::l=>by rw [bD,bD,bD,zCs];grind
def zJZ (ws cs:List Int) (s t:Rat):Prop:=∀ i,i < cs.length->lv ws cs i<=s∨t<=lv ws cs i
theorem xQ {ws cs:List Int} (h:Wt ws cs) {s t u:Rat} (n:zJZ ws cs s t) (su:s<=u) (ut:u<=t) {i:Nat} (hi:i < cs.length):dU (cR cs) (cR ws) u i - dU (cR cs) (cR ws) s i=sl ws cs s i * (u - s):=by
 unfold sl
 by_cases z:lv ws cs i<=s
 ·rw [zEo h hi z,zEo h hi (Rat.le_trans z su),if_pos z];grind
 ·rcases n i hi with k | k
  ·exact absurd k z
  ·rw [zFR h hi (Rat.le_trans ut k),zFR h hi (Rat.le_trans su (Rat.le_trans ut k)),if_neg z];grind
theorem zAh {ws cs:List Int} (h:Wt ws cs) {s t u:Rat} (n:zJZ ws cs s t) (su:s<=u) (ut:u<=t):QQ ws cs u - QQ ws cs s=hG (sl ws cs s) (List.range cs.length) * (u - s):=by
 unfold QQ
 rw [<-zCs,dS (g:=fun i=>sl ws cs s i * (u - s)) fun i hi=>xQ h n su ut (List.mem_range.mp hi)]
 rw [dF]
 grind
theorem mD {ws cs:List Int} (h:Wt ws cs) {s t:Rat} (l:s<=t):QQ ws cs s<=QQ ws cs t:=pF fun i hi=>lA (h.pos (List.mem_range.mp hi)) l
theorem zMv {ws cs:List Int} (h:Wt ws cs) {s t:Rat} (e:QQ ws cs s=QQ ws cs t) {i:Nat} (hi:i < cs.length):dU (cR cs) (cR ws) s i=dU (cR cs) (cR ws) t i:=xV (fun i hi=>h.pos (List.mem_range.mp hi)) e i (List.mem_range.mpr hi)
theorem zLF {ws cs:List Int} (h:Wt ws cs) {s t:Rat} (st:s<=t) (n:zJZ ws cs s t) {i:Nat} (hi:i < cs.length) {f:Rat->Rat} (hf:∀ x,QQ ws cs s<=x->x<=QQ ws cs t->∃ u,QQ ws cs u=x/\f x=dU (cR cs) (cR ws) u i):Lin f (QQ ws cs s) (QQ ws cs t):=by
 have ab:=mD h st
 have at':∀ v,s<=v->v<=t->f (QQ ws cs v)=dU (cR cs) (cR ws) v i:=fun v h1 h2=>by
  obtain ⟨u,e1,e2⟩:=hf _ (mD h h1) (mD h h2)
  rw [e2,zMv h e1 hi]
 have fa:=at' s Rat.le_refl st
 have fb:=at' t st Rat.le_refl
 intro x h1 h2
 obtain ⟨u,e1,e2⟩:=hf x h1 h2
 rcases Rat.le_total (a:=u) (b:=s) with z | z
 ·have q:=mD h z
  have ex:x=QQ ws cs s:=by grind
  subst ex
  grind
 rcases Rat.le_total (a:=t) (b:=u) with z' | z'
 ·have q:=mD h z'
  have ex:x=QQ ws cs t:=by grind
  subst ex
  grind
 have d1:=zAh h n z z'
 have d2:=zAh h n st Rat.le_refl
 have g1:=xQ h n z z' hi
 have g2:=xQ h n st Rat.le_refl hi
 rw [e1] at d1
 rw [e2,fa,fb,g1,g2,d1,d2]
 grind
theorem zEc {ws cs:List Int} (h:Wt ws cs) {q:Rat}:∀ {l:List Rat} {s:Rat},Cn (fun s t=>s<=t/\zJZ ws cs s t) (s::l)->QQ ws cs s<=q->q<=QQ ws cs ((s::l).getLast (by simp))->∃ u,s<=u/\QQ ws cs u=q
 | [],s,_,h1,h2=>⟨s,Rat.le_refl,by
  have h2':q<=QQ ws cs s:=h2
  grind⟩
 | t::l,s,hc,h1,h2=>by
  obtain ⟨⟨st,n⟩,hc'⟩:=hc
  rcases Rat.le_total (a:=QQ ws cs t) (b:=q) with z | z
  ·obtain ⟨u,u1,u2⟩:=zEc h hc' z (by simpa using h2)
   exact ⟨u,Rat.le_trans st u1,u2⟩
  ·by_cases e:QQ ws cs s=QQ ws cs t
   ·exact ⟨s,Rat.le_refl,by grind⟩
   have d2:=zAh h n st Rat.le_refl
   generalize hG (sl ws cs s) (List.range cs.length)=W at d2
   have lt:QQ ws cs s < QQ ws cs t:=by have:=mD h st;grind
   have p:0 < QQ ws cs t - QQ ws cs s:=by grind
   have nz:QQ ws cs t - QQ ws cs s≠0:=by grind
   have lam:0<=(q - QQ ws cs s) / (QQ ws cs t - QQ ws cs s)/\(q - QQ ws cs s) / (QQ ws cs t - QQ ws cs s)<=1:=by
    refine ⟨qB p ?_,qB p ?_⟩
    ·rw [Rat.div_mul_cancel nz];grind
    ·rw [Rat.div_mul_cancel nz];grind
   have le:(q - QQ ws cs s) / (QQ ws cs t - QQ ws cs s) * (QQ ws cs t - QQ ws cs s)=q - QQ ws cs s:=Rat.div_mul_cancel nz
   generalize (q - QQ ws cs s) / (QQ ws cs t - QQ ws cs s)=k at lam le
   have ts:0<=t - s:=by grind
   have m1:=Rat.mul_nonneg lam.1 ts
   have m2:=Rat.mul_le_mul_of_nonneg_right lam.2 ts
   refine ⟨s+k * (t - s),by grind,?_⟩
   have d1:=zAh h n (u:=s+k * (t - s)) (by grind) (by grind)
   have d2':=zAh h n st Rat.le_refl
   grind
theorem zHI:∀ (n:Nat) (g:Nat->Rat),∃ M,∀ i,i < n->Sz M (g i)
 | 0,_=>⟨0,fun i h=>by omega⟩
 | n+1,g=>by
  obtain ⟨M,h⟩:=zHI n g
  refine ⟨M+((g n).num.natAbs+(g n).den),fun i hi=>?_⟩
  by_cases z:i=n
  ·rw [z];exact (zLU (g n)).mono (by omega)
  ·exact (h i (by omega)).mono (by omega)
theorem zNm {ws cs:List Int} (h:Wt ws cs) (hc:Cl cs) {q:Rat} (q0:0<=q) (q1:q<=(cs.sum:Rat)):∃ u,0<=u/\QQ ws cs u=q:=by
 generalize hA:(List.range cs.length).map (lv ws cs)=A
 have pm:(A.mergeSort fun a b=>decide (a<=b)).Perm A:=List.mergeSort_perm A _
 have so:(A.mergeSort fun a b=>decide (a<=b)).Pairwise (·<=·):=by
  have:=List.pairwise_mergeSort (le:=fun a b:Rat=>decide (a<=b)) (fun a b c h1 h2=>by
   have h1':=of_decide_eq_true h1
   have h2':=of_decide_eq_true h2
   exact decide_eq_true (Rat.le_trans h1' h2')) (fun a b=>by
   rcases Rat.le_total (a:=a) (b:=b) with z | z
   ·simp [z]
   ·simp [z]) A
  exact this.imp fun h=>of_decide_eq_true h
 generalize A.mergeSort (fun a b=>decide (a<=b))=L at pm so
 have nn:∀ x∈L,0<=x:=fun x hx=>by
  have hx':=pm.mem_iff.mp hx
  rw [<-hA] at hx'
  obtain ⟨i,hi,rfl⟩:=List.mem_map.mp hx'
  exact zGg h hc (List.mem_range.mp hi)
 have so':(0::L).Pairwise (·<=·):=List.pairwise_cons.mpr ⟨nn,so⟩
 have cn:=rW (A:=A) so' fun x hx=>.inl (List.mem_cons_of_mem _ (pm.mem_iff.mpr hx))
 have cn':Cn (fun s t=>s<=t/\zJZ ws cs s t) (0::L):=cn.imp fun a b hab=>⟨hab.1,fun i hi=>hab.2 _ (by rw [<-hA];exact List.mem_map.mpr ⟨i,List.mem_range.mpr hi,rfl⟩)⟩
 have z0:QQ ws cs 0=0:=by
  unfold QQ
  rw [dS (g:=fun i=>cR ws i * 0) fun i hi=>zFR h (List.mem_range.mp hi) (zGg h hc (List.mem_range.mp hi)),dF]
  grind
 have zl:QQ ws cs ((0::L).getLast (by simp))=(cs.sum:Rat):=by
  unfold QQ
  rw [dS (g:=cR cs) fun i hi=>zEo h (List.mem_range.mp hi) ?_]
  ·exact pT cs
  ·have m:lv ws cs i∈L:=pm.mem_iff.mpr (by rw [<-hA];exact List.mem_map.mpr ⟨i,hi,rfl⟩)
   have key:∀ {l:List Rat} (ne:l≠[]),l.Pairwise (·<=·)->∀ x∈l,x<=l.getLast ne:=by
    intro l
    induction l with
    | nil=>intro ne;exact absurd rfl ne
    | cons a r ih=>
     intro ne hp x hx
     obtain ⟨p1,p2⟩:=List.pairwise_cons.mp hp
     cases r with
     | nil=>rw [List.mem_singleton.mp hx];exact Rat.le_refl
     | cons b r=>
      rw [List.getLast_cons (by simp)]
      rcases List.mem_cons.mp hx with rfl | hx
      ·exact Rat.le_trans (p1 b List.mem_cons_self) (ih (by simp) p2 b List.mem_cons_self)
      ·exact ih (by simp) p2 x hx
   exact key (by simp) so' _ (List.mem_cons_of_mem _ m)
 exact zEc h cn' (by rw [z0];exact q0) (by rw [zl];exact q1)
theorem zCH {ws cs:List Int} (h:Wt ws cs) (hc:Cl cs) {q:Rat} (q0:0<=q) (q1:q<=(cs.sum:Rat)):∃ M t,Lvl M ws cs q t:=by
 obtain ⟨u,u0,e⟩:=zNm h hc q0 q1
 obtain ⟨M,hM⟩:=zHI cs.length (dU (cR cs) (cR ws) u)
 exact ⟨M,u,u0,e,hM⟩
theorem zLh {w:Wy} {ws cs:List Int} (hw:w.due ws cs) (hc:Cl cs) {q:Rat} (q0:0<=q) (q1:q<=(cs.sum:Rat)):∃ f M,Al M ws cs q f w:=by
 cases w with
 | row=>exact ⟨_,0,fun i _=>rfl⟩
 | back=>exact ⟨_,0,fun i _=>rfl⟩
 | part=>exact ⟨_,0,fun i _=>rfl⟩
 | even=>
  obtain ⟨M,t,tl⟩:=zCH hw hc q0 q1
  exact ⟨_,M,t,tl,fun i _=>rfl⟩
 | lack=>
  obtain ⟨M,t,tl⟩:=zCH hw hc (q:=(cs.sum:Rat) - q) (by grind) (by grind)
  exact ⟨_,M,t,tl,fun i _=>rfl⟩
 | half=>
  by_cases z:(cs.sum:Rat) < q+q
  ·obtain ⟨M,t,tl⟩:=zCH (iH cs) hc (q:=((cs.sum:Rat) - q)+((cs.sum:Rat) - q)) (by grind) (by grind)
   exact ⟨_,M,t,.inr ⟨z,tl,fun i _=>rfl⟩⟩
  ·have z':=Rat.not_lt.mp z
   obtain ⟨M,t,tl⟩:=zCH (iH cs) hc (q:=q+q) (by grind) z'
   exact ⟨_,M,t,.inl ⟨z',tl,fun i _=>rfl⟩⟩
open Classical in
def FF (w:Wy) (ws cs:List Int) (q:Rat):Nat->Rat:=if h:∃ f M,Al M ws cs q f w then Classical.choose h else fun _=>0
theorem zAw {w:Wy} {ws cs:List Int} (hw:w.due ws cs) (hc:Cl cs) {q:Rat} (q0:0<=q) (q1:q<=(cs.sum:Rat)):∃ M,Al M ws cs q (FF w ws cs q) w:=by
 unfold FF
 rw [dif_pos (zLh hw hc q0 q1)]
 exact Classical.choose_spec (zLh hw hc q0 q1)
theorem zFQ {M:Nat} {w:Wy} {ws cs:List Int} (hw:w.due ws cs) (hc:Cl cs) {q:Rat} {f:Nat->Rat} (q0:0<=q) (q1:q<=(cs.sum:Rat)) (a:Al M ws cs q f w) {i:Nat} (hi:i < cs.length):f i=FF w ws cs q i:=by
 obtain ⟨M',b⟩:=zAw hw hc q0 q1
 exact zLk hw a b hi
theorem zKs {w:Wy} {ws cs:List Int} (hw:w.due ws cs) (hc:Cl cs) {q:Rat} (q0:0<=q) (q1:q<=(cs.sum:Rat)):(∀ i,i < cs.length->0<=FF w ws cs q i/\FF w ws cs q i<=cR cs i)/\((List.range cs.length).map (FF w ws cs q)).sum=q:=by
 obtain ⟨M,b⟩:=zAw hw hc q0 q1
 exact zNh hw hc q0 q1 b
theorem zJF {w:Wy} {ws cs:List Int} (hw:w.due ws cs) (hc:Cl cs) {q q':Rat} (q0:0<=q) (l:q<=q') (q1:q'<=(cs.sum:Rat)) {i:Nat} (hi:i < cs.length):FF w ws cs q i<=FF w ws cs q' i:=by
 obtain ⟨M,a⟩:=zAw hw hc q0 (Rat.le_trans l q1)
 obtain ⟨M',b⟩:=zAw hw hc (Rat.le_trans q0 l) q1
 exact zJy hw hc a b l hi
theorem zHC {w:Wy} {ws cs:List Int} (hw:w.due ws cs) (hc:Cl cs) {q:Rat} (q0:0<=q) (q1:q<=(cs.sum:Rat)) {i:Nat} (hi:i < cs.length):FF w.con ws cs ((cs.sum:Rat) - q) i=cR cs i - FF w ws cs q i:=by
 obtain ⟨M,a⟩:=zAw hw hc q0 q1
 obtain ⟨M',b⟩:=zAw (zBD hw) hc (q:=(cs.sum:Rat) - q) (by grind) (by grind)
 exact zLZ hw hc q0 q1 a b hi
theorem zA {f:Nat->Rat}:∀ {l:List Nat},(∀ i∈l,0<=f i)->hG f l=0->∀ i∈l,f i=0
 | [],_,_,i,h=>by cases h
 | a::l,hn,e,i,h=>by
  have p:0<=hG f l:=by
   have:∀ {l:List Nat},(∀ i∈l,0<=f i)->0<=hG f l:=by
    intro l
    induction l with
    | nil=>intro _;rw [gO];exact Rat.le_refl
    | cons b l ih=>intro hl;rw [bD];have:=hl b List.mem_cons_self;have:=ih fun x hx=>hl x (List.mem_cons_of_mem _ hx);grind
   exact this fun x hx=>hn x (List.mem_cons_of_mem _ hx)
  have a0:=hn a List.mem_cons_self
  rw [bD] at e
  rcases List.mem_cons.mp h with rfl | h
  ·grind
  ·exact zA (fun x hx=>hn x (List.mem_cons_of_mem _ hx)) (by grind) i h
theorem zEL {w:Wy} {ws cs:List Int} (hw:w.due ws cs) (hc:Cl cs) {i:Nat} (hi:i < cs.length):FF w ws cs 0 i=0:=by
 have s0:(0:Rat)<=(cs.sum:Rat):=by exact_mod_cast hc.sum.1
 obtain ⟨b,s⟩:=zKs hw hc Rat.le_refl s0
 exact zA (fun i hi=>(b i (List.mem_range.mp hi)).1) s i (List.mem_range.mpr hi)
theorem zFp {w:Wy} {ws cs:List Int} (hw:w.due ws cs) (hc:Cl cs) {i:Nat} (hi:i < cs.length):FF w ws cs (cs.sum:Rat) i=cR cs i:=by
 have s0:(0:Rat)<=(cs.sum:Rat):=by exact_mod_cast hc.sum.1
 obtain ⟨b,s⟩:=zKs hw hc s0 Rat.le_refl
 have e:=pO (f:=FF w ws cs (cs.sum:Rat)) (g:=cR cs) (l:=List.range cs.length) (fun i hi=>(b i (List.mem_range.mp hi)).2) (by
  show ((List.range cs.length).map _).sum=_
  rw [s]
  exact (pT cs).symm)
 exact e i (List.mem_range.mpr hi)
theorem zBA:∀ {cs:List Int} {i j:Nat},(∀ c∈cs,0<=c)->i < j->j<=cs.length->(cs.take i).sum+cs.getD i 0<=(cs.take j).sum/\0<=(cs.take i).sum
 | [],i,j,_,h,h'=>by simp at h';omega
 | c::r,i,0,_,h,_=>by omega
 | c::r,0,j+1,hn,_,_=>by
  have hr:∀ l:List Int,(∀ c∈l,0<=c)->0<=l.sum:=by
   intro l
   induction l with
   | nil=>intro _;decide
   | cons a l ih=>intro hl;rw [List.sum_cons];have:=hl a List.mem_cons_self;have:=ih fun x hx=>hl x (List.mem_cons_of_mem _ hx);omega
  have:=hr (r.take j) fun x hx=>hn x (List.mem_cons_of_mem _ (List.mem_of_mem_take hx))
  rw [List.take_succ_cons,List.sum_cons]
  simp
  omega
 | c::r,i+1,j+1,hn,h,h'=>by
  have ih:=zBA (cs:=r) (i:=i) (j:=j) (fun x hx=>hn x (List.mem_cons_of_mem _ hx)) (by omega) (by simpa using h')
  have:=hn c List.mem_cons_self
  rw [List.take_succ_cons,List.sum_cons,List.take_succ_cons,List.sum_cons]
  show c+_+r.getD i 0<=_/\_
  omega
def Jt (w:Wy) (ws cs:List Int) (a b:Rat):Prop:=0<=a/\a<=b/\b<=(cs.sum:Rat)/\∀ i,i < cs.length->Lin (fun x=>FF w ws cs x i) a b
theorem Lin.const {f:Rat->Rat} {a b k:Rat} (hab:a<=b) (h:∀ x,a<=x->x<=b->f x=k):Lin f a b:=fun x h1 h2=>by
 rw [h x h1 h2,h a Rat.le_refl hab,h b hab Rat.le_refl]
 grind
theorem Lin.line {f:Rat->Rat} {a b m k:Rat} (hab:a<=b) (h:∀ x,a<=x->x<=b->f x=m * x+k):Lin f a b:=fun x h1 h2=>by
 rw [h x h1 h2,h a Rat.le_refl hab,h b hab Rat.le_refl]
 grind
def rj:List Int->Int->List Rat
 | [],a=>[(a:Rat)]
 | c::r,a=>(a:Rat)::rj r (a+c)
theorem zBm (r:List Int) (a:Int):∃ t,rj r a=(a:Rat)::t:=by cases r<;>exact ⟨_,rfl⟩
theorem zFy {cs:List Int} (hc:Cl cs):∀ (post pre:List Int),cs=pre++post->Cn (Jt .row [] cs) (rj post pre.sum)
 | [],_,_=>trivial
 | c::r,pre,e=>by
  have ih:=zFy hc r (pre++[c]) (by rw [e];simp)
  rw [List.sum_append,show ([c]:List Int).sum=c by simp] at ih
  obtain ⟨t,et⟩:=zBm r (pre.sum+c)
  rw [rj,et]
  rw [et] at ih
  refine ⟨?_,ih⟩
  have hk:pre.length < cs.length:=by rw [e];simp
  have tk:cs.take pre.length=pre:=by rw [e];exact List.take_left
  have ck:cs.getD pre.length 0=c:=by rw [e,List.getD_eq_getElem?_getD,List.getElem?_append_right (Nat.le_refl _)];simp
  have c0:0<=c:=hc.nn c (by rw [e];simp)
  have p0:0<=pre.sum:=by
   have:∀ l:List Int,(∀ c∈l,0<=c)->0<=l.sum:=by
    intro l
    induction l with
    | nil=>intro _;decide
    | cons a l ih=>intro hl;rw [List.sum_cons];have:=hl a List.mem_cons_self;have:=ih fun x hx=>hl x (List.mem_cons_of_mem _ hx);omega
   exact this pre fun x hx=>hc.nn x (by rw [e];exact List.mem_append_left _ hx)
  have r0:0<=r.sum:=by
   have:∀ l:List Int,(∀ c∈l,0<=c)->0<=l.sum:=by
    intro l
    induction l with
    | nil=>intro _;decide
    | cons a l ih=>intro hl;rw [List.sum_cons];have:=hl a List.mem_cons_self;have:=ih fun x hx=>hl x (List.mem_cons_of_mem _ hx);omega
   exact this r fun x hx=>hc.nn x (by rw [e];exact List.mem_append_right _ (List.mem_cons_of_mem _ hx))
  have se:cs.sum=pre.sum+c+r.sum:=by rw [e,List.sum_append,List.sum_cons];omega
  have ab:(pre.sum:Rat)<=((pre.sum+c:Int):Rat):=Rat.intCast_le_intCast.mpr (by omega)
  have bS:((pre.sum+c:Int):Rat)<=(cs.sum:Rat):=Rat.intCast_le_intCast.mpr (by omega)
  have a0:(0:Rat)<=(pre.sum:Rat):=by exact_mod_cast p0
  refine ⟨a0,ab,bS,fun i hi=>?_⟩
  have fx:∀ x,(pre.sum:Rat)<=x->x<=((pre.sum+c:Int):Rat)->FF .row [] cs x i=mn (ps0 (x - ((0+(cs.take i).sum:Int):Rat))) (cR cs i):=fun x h1 h2=>by
   rw [<-zFQ (M:=0) (w:=.row) (ws:=[]) (f:=zDx cs x) rfl hc (Rat.le_trans a0 h1) (Rat.le_trans h2 bS) (fun i _=>rfl) hi]
   exact zBx cs 0 x i hi
  have ci:=(zGP hc hi).1
  rcases Nat.lt_trichotomy i pre.length with z | z | z
  ·have tu:=(zBA hc.nn z (Nat.le_of_lt hk)).1
   rw [tk] at tu
   refine Lin.const ab (k:=cR cs i) fun x h1 h2=>?_
   rw [fx x h1 h2]
   have tu':((0+(cs.take i).sum:Int):Rat)+cR cs i<=(pre.sum:Rat):=by
    unfold cR
    rw [<-Rat.intCast_add]
    exact Rat.intCast_le_intCast.mpr (by omega)
   unfold mn ps0
   grind
  ·subst z
   refine Lin.line ab (m:=1) (k:=-(pre.sum:Rat)) fun x h1 h2=>?_
   rw [fx x h1 h2,tk,Int.zero_add]
   have:cR cs pre.length=(c:Rat):=by unfold cR;rw [ck]
   rw [this]
   rw [Rat.intCast_add] at h2
   unfold mn ps0
   grind
  ·have tu:=(zBA hc.nn z (Nat.le_of_lt hi)).1
   rw [tk,ck] at tu
   refine Lin.const ab (k:=0) fun x h1 h2=>?_
   rw [fx x h1 h2]
   have tu':((pre.sum+c:Int):Rat)<=((0+(cs.take i).sum:Int):Rat):=Rat.intCast_le_intCast.mpr (by omega)
   unfold mn ps0
   grind
theorem zLL {cs:List Int} (hc:Cl cs):Cn (Jt .row [] cs) (rj cs 0):=zFy hc cs [] rfl
theorem zJr {cs:List Int} (hc:Cl cs):Cn (Jt .part [] cs) [0,(cs.sum:Rat)]:=by
 have s0:(0:Rat)<=(cs.sum:Rat):=by exact_mod_cast hc.sum.1
 refine ⟨⟨Rat.le_refl,s0,Rat.le_refl,fun i hi=>?_⟩,trivial⟩
 have fx:∀ x,0<=x->x<=(cs.sum:Rat)->FF .part [] cs x i * (cs.sum:Rat)=x * cR cs i:=fun x h1 h2=>by
  rw [<-zFQ (M:=0) (w:=.part) (ws:=[]) (f:=iY cs x) rfl hc h1 h2 (fun i _=>rfl) hi]
  exact (kK hc hi).1
 intro x h1 h2
 have e0:=zEL (w:=.part) (ws:=[]) rfl hc hi
 have e1:=fx x h1 h2
 have e2:=zFp (w:=.part) (ws:=[]) rfl hc hi
 show (FF .part [] cs x i - FF .part [] cs 0 i) * _=_ * (FF .part [] cs (cs.sum:Rat) i - FF .part [] cs 0 i)
 rw [e0,e2]
 generalize FF Wy.part [] cs x i=y at *
 generalize (cs.sum:Rat)=S at *
 generalize cR cs i=c at *
 grind
theorem zDP {R R':Rat->Rat->Prop} {g:Rat->Rat} (h:∀ a b,R a b->R' (g a) (g b)):∀ {l:List Rat},Cn R l->Cn R' (l.map g)
 | [],_=>trivial
 | [_],_=>trivial
 | a::b::l,k=>⟨h a b k.1,zDP h k.2⟩
theorem zEm {R:Rat->Rat->Prop}:∀ {l l':List Rat},Cn R l->Cn R l'->(∀ x y,l.getLast?=some x->l'.head?=some y->R x y)->Cn R (l++l')
 | [],_,_,h,_=>h
 | [a],[],_,_,_=>trivial
 | [a],b::l',_,h,k=>⟨k a b rfl rfl,h⟩
 | a::b::l,l',h,h',k=>⟨h.1,zEm h.2 h' fun x y hx hy=>k x y (by simpa using hx) hy⟩
theorem zEa {R R':Rat->Rat->Prop} {g:Rat->Rat} (h:∀ a b,R a b->R' (g b) (g a)):∀ {l:List Rat},Cn R l->Cn R' (l.reverse.map g)
 | [],_=>trivial
 | [_],_=>trivial
 | a::b::l,k=>by
  have ih:=zEa (l:=b::l) h k.2
  rw [List.reverse_cons,List.map_append]
  refine zEm ih trivial fun x y hx hy=>?_
  rw [List.getLast?_map,List.getLast?_reverse] at hx
  cases hx
  cases hy
  exact h a b k.1
theorem Lin.mir {f g:Rat->Rat} {a b S c:Rat} (hab:a<=b) (h:Lin f a b) (hg:∀ x,a<=x->x<=b->g (S - x)=c - f x):Lin g (S - b) (S - a):=fun x h1 h2=>by
 have k:=h (S - x) (by grind) (by grind)
 have e:=hg (S - x) (by grind) (by grind)
 rw [show S - (S - x)=x by grind] at e
 rw [e,hg a Rat.le_refl hab,hg b hab Rat.le_refl]
 grind
theorem zHz {w:Wy} {ws cs:List Int} (hw:w.due ws cs) (hc:Cl cs) {a b:Rat} (h:Jt w ws cs a b):Jt w.con ws cs ((cs.sum:Rat) - b) ((cs.sum:Rat) - a):=by
 obtain ⟨h1,h2,h3,h4⟩:=h
 refine ⟨by grind,by grind,by grind,fun i hi=>?_⟩
 exact Lin.mir h2 (h4 i hi) (c:=cR cs i) fun x x1 x2=>zHC hw hc (Rat.le_trans h1 x1) (Rat.le_trans x2 h3) hi
theorem zMD {ws cs:List Int} (h:Wt ws cs) (hc:Cl cs) {s t:Rat} (s0:0<=s) (st:s<=t) (n:zJZ ws cs s t):Jt .even ws cs (QQ ws cs s) (QQ ws cs t):=by
 have g0:∀ i,i < cs.length->∀ t,0<=t->0<=dU (cR cs) (cR ws) t i/\dU (cR cs) (cR ws) t i<=cR cs i:=fun i hi t t0=>mB h hc t0 hi
 have q0:0<=QQ ws cs s:=by
  have:hG (fun i=>cR ws i * 0) (List.range cs.length)<=QQ ws cs s:=pF fun i hi=>by
   have:=(g0 i (List.mem_range.mp hi) s s0).1
   grind
  rw [dF] at this
  grind
 have q1:QQ ws cs t<=(cs.sum:Rat):=by
  have:QQ ws cs t<=hG (cR cs) (List.range cs.length):=pF fun i hi=>(g0 i (List.mem_range.mp hi) t (Rat.le_trans s0 st)).2
  have e:hG (cR cs) (List.range cs.length)=(cs.sum:Rat):=pT cs
  rw [e] at this
  exact this
 refine ⟨q0,mD h st,q1,fun i hi=>zLF h st n hi fun x x1 x2=>?_⟩
 obtain ⟨M,u,tl,e⟩:=zAw (w:=.even) h hc (Rat.le_trans q0 x1) (Rat.le_trans x2 q1)
 exact ⟨u,tl.sum,e i hi⟩
theorem zIY {ws cs:List Int} (h:Wt ws cs) (hc:Cl cs) {ls:List Rat} (so:ls.Pairwise (·<=·)) (hm:∀ i,i < cs.length->lv ws cs i∈ls) (h0:∀ x∈ls,0<=x):Cn (Jt .even ws cs) ((0::ls).map (QQ ws cs)):=by
 have so':(0::ls).Pairwise (·<=·):=List.pairwise_cons.mpr ⟨h0,so⟩
 have cn:=rW (A:=0::ls) so' fun x hx=>.inl hx
 have pos:∀ {l:List Rat},(∀ x∈l,0<=x)->Cn (fun s t=>s<=t/\∀ x∈0::ls,x<=s∨t<=x) l->Cn (fun s t=>0<=s/\s<=t/\∀ x∈0::ls,x<=s∨t<=x) l:=by
  intro l
  induction l with
  | nil=>intro _ _;trivial
  | cons a r ih=>
   intro hp k
   cases r with
   | nil=>trivial
   | cons b r=>exact ⟨⟨hp a List.mem_cons_self,k.1⟩,ih (fun x hx=>hp x (List.mem_cons_of_mem _ hx)) k.2⟩
 refine zDP (fun a b hab=>?_) (pos (fun x hx=>?_) cn)
 ·exact zMD h hc hab.1 hab.2.1 fun i hi=>hab.2.2 _ (List.mem_cons_of_mem _ (hm i hi))
 ·rcases List.mem_cons.mp hx with rfl | hx
  ·exact Rat.le_refl
  ·exact h0 x hx
theorem zIU {cs:List Int} (hc:Cl cs) {q:Rat} (q0:0<=q) (q1:q+q<=(cs.sum:Rat)) {i:Nat} (hi:i < cs.length):FF .half [] cs q i=FF .even (ones cs) cs (q+q) i * hf:=by
 have s0:(0:Rat)<=(cs.sum:Rat):=by exact_mod_cast hc.sum.1
 obtain ⟨M,t,tl,e⟩:=zAw (w:=.even) (ws:=ones cs) (iH cs) hc (q:=q+q) (by grind) q1
 rw [<-zFQ (M:=M) (w:=.half) (ws:=[]) (f:=fun i=>dU (cR cs) (cR (ones cs)) t i * hf) rfl hc q0 (by grind) ⟨t,.inl ⟨q1,tl,fun i _=>rfl⟩⟩ hi,e i hi]
theorem zIz {cs:List Int} (hc:Cl cs) {a b:Rat} (h:Jt .even (ones cs) cs a b):Jt .half [] cs (a * hf) (b * hf):=by
 obtain ⟨h1,h2,h3,h4⟩:=h
 have tw:∀ x:Rat,x * hf+x * hf=x:=fun x=>by rw [pK];grind
 have ta:=tw a
 have tb:=tw b
 have p:(0:Rat) < hf:=by rw [pK];grind
 have l1:=Rat.mul_le_mul_of_nonneg_right h1 (Rat.le_of_lt p)
 have l2:=Rat.mul_le_mul_of_nonneg_right h2 (Rat.le_of_lt p)
 refine ⟨by grind,l2,by grind,fun i hi x x1 x2=>?_⟩
 have fx:∀ y,a * hf<=y->y<=b * hf->FF .half [] cs y i=FF .even (ones cs) cs (y+y) i * hf:=fun y y1 y2=>zIU hc (by grind) (by grind) hi
 show (FF .half [] cs x i - FF .half [] cs (a * hf) i) * _=_ * (FF .half [] cs (b * hf) i - FF .half [] cs (a * hf) i)
 rw [fx x x1 x2,fx (a * hf) Rat.le_refl l2,fx (b * hf) l2 Rat.le_refl,ta,tb]
 have k:=h4 i hi (x+x) (by grind) (by grind)
 have k':(FF .even (ones cs) cs (x+x) i - FF .even (ones cs) cs a i) * (b - a)=(x+x - a) * (FF .even (ones cs) cs b i - FF .even (ones cs) cs a i):=k
 rw [show b * hf - a * hf=(b - a) * hf by grind]
 have hh:hf * (1+1)=1:=by rw [pK];grind
 generalize FF Wy.even (ones cs) cs (x+x) i=u at *
 generalize FF Wy.even (ones cs) cs a i=v at *
 generalize FF Wy.even (ones cs) cs b i=z at *
 generalize hf=H at *
 grind
structure JL (w:Wy) (ws cs:List Int) (l:List Rat):Prop where
 cn:Cn (Jt w ws cs) l
 hd:l.head?=some 0
 la:l.getLast?=some (cs.sum:Rat)
def ddR:Rat->List Rat->List Rat
 | _,[]=>[]
 | k,x::l=>if k < x then x::ddR x l else ddR k l
theorem zJu {w:Wy} {ws cs:List Int}:∀ {l:List Rat} {k:Rat},Cn (Jt w ws cs) (k::l)->Cn (fun a b=>a < b/\Jt w ws cs a b) (k::ddR k l)/\(k::ddR k l).getLast?=(k::l).getLast?
 | [],k,_=>⟨trivial,rfl⟩
 | x::l,k,h=>by
  rw [ddR]
  by_cases z:k < x
  ·rw [if_pos z]
   obtain ⟨i1,i2⟩:=zJu h.2
   refine ⟨⟨⟨z,h.1⟩,i1⟩,?_⟩
   rw [List.getLast?_cons_cons,List.getLast?_cons_cons]
   exact i2
  ·rw [if_neg z]
   have e:k=x:=by have:=h.1.2.1;grind
   subst e
   obtain ⟨i1,i2⟩:=zJu h.2
   refine ⟨i1,?_⟩
   rw [i2,List.getLast?_cons_cons]
theorem zDy:∀ (l:List Rat) (k:Rat),(ddR k l).Sublist l
 | [],_=>List.Sublist.refl _
 | x::l,k=>by
  rw [ddR]
  split
  ·exact (zDy l x).cons₂ x
  ·exact (zDy l k).cons x
structure JS (w:Wy) (ws cs:List Int) (l:List Rat):Prop where
 cn:Cn (fun a b=>a < b/\Jt w ws cs a b) l
 hd:l.head?=some 0
 la:l.getLast?=some (cs.sum:Rat)
theorem JL.js {w:Wy} {ws cs:List Int} {l:List Rat} (h:JL w ws cs (0::l)):JS w ws cs (0::ddR 0 l):=by
 obtain ⟨a,b⟩:=zJu h.cn
 exact ⟨a,rfl,by rw [b];exact h.la⟩
theorem zIL {R:Rat->Rat->Prop}:∀ {l:List Rat},Cn (fun a b=>a < b/\R a b) l->l.Pairwise (· < ·)
 | [],_=>.nil
 | [a],_=>List.pairwise_singleton ..
 | a::b::l,h=>by
  have ih:=zIL h.2
  refine List.pairwise_cons.mpr ⟨fun x hx=>?_,ih⟩
  rcases List.mem_cons.mp hx with rfl | hx
  ·exact h.1.1
  ·have z1:=h.1.1
   have z2:=(List.pairwise_cons.mp ih).1 x hx
   grind
theorem zKl {R:Rat->Rat->Prop}:∀ {l:List Rat} {k:Nat} {a b:Rat},Cn R l->l[k]?=some a->l[k+1]?=some b->R a b
 | x::y::l,0,a,b,h,e1,e2=>by cases e1;cases e2;exact h.1
 | x::y::l,k+1,a,b,h,e1,e2=>zKl (k:=k) h.2 (by simpa using e1) (by simpa using e2)
 | [x],0,a,b,h,e1,e2=>by simp at e2
 | [x],k+1,a,b,h,e1,e2=>by simp at e2
 | [],k,a,b,h,e1,e2=>by simp at e1
def jpt (w:Wy) (ws cs:List Int) (l:List Rat) (i:Nat):List Pt:=l.map fun q=>(q,FF w ws cs q i)
theorem JS.bd {w:Wy} {ws cs:List Int} {l:List Rat} (h:JS w ws cs l):∀ x∈l,0<=x/\x<=(cs.sum:Rat):=by
 have p:=zIL h.cn
 intro x hx
 obtain ⟨hd,la⟩:=(⟨h.hd,h.la⟩:_/\_)
 cases l with
 | nil=>cases hx
 | cons a r=>
  cases hd
  refine ⟨?_,?_⟩
  ·rcases List.mem_cons.mp hx with rfl | hx
   ·exact Rat.le_refl
   ·exact Rat.le_of_lt ((List.pairwise_cons.mp p).1 x hx)
  ·have key:∀ {l:List Rat} {e x:Rat},l.Pairwise (· < ·)->l.getLast?=some e->x∈l->x<=e:=by
    intro l
    induction l with
    | nil=>intro e x _ _ hx;cases hx
    | cons a r ih=>
     intro e x hp he hx
     obtain ⟨p1,p2⟩:=List.pairwise_cons.mp hp
     cases r with
     | nil=>rw [List.mem_singleton.mp hx];cases he;exact Rat.le_refl
     | cons b r=>
      rw [List.getLast?_cons_cons] at he
      rcases List.mem_cons.mp hx with rfl | hx
      ·exact Rat.le_trans (Rat.le_of_lt (p1 b List.mem_cons_self)) (ih p2 he List.mem_cons_self)
      ·exact ih p2 he hx
   exact key p la hx
theorem zCL {w:Wy} {ws cs:List Int} {l:List Rat} (hw:w.due ws cs) (hc:Cl cs) (h:JS w ws cs l) {i:Nat} (hi:i < cs.length):Ok (jpt w ws cs l i)/\(jpt w ws cs l i).getLast?=some ((cs.sum:Rat),cR cs i):=by
 have b:=h.bd
 refine ⟨⟨?_,?_⟩,?_⟩
 ·unfold jpt
  rw [List.head?_map,h.hd]
  show some ((0:Rat),FF w ws cs 0 i)=_
  rw [zEL hw hc hi]
 ·unfold jpt
  rw [List.pairwise_map]
  refine List.Pairwise.imp_of_mem (fun {x y} hx hy hxy=>?_) (zIL h.cn)
  exact ⟨hxy,zJF hw hc (b x hx).1 (Rat.le_of_lt hxy) (b y hy).2 hi⟩
 ·unfold jpt
  rw [List.getLast?_map,h.la]
  show some ((cs.sum:Rat),FF w ws cs (cs.sum:Rat) i)=_
  rw [zFp hw hc hi]
theorem zIT {w:Wy} {ws cs:List Int} {l:List Rat} (hw:w.due ws cs) (hc:Cl cs) (h:JS w ws cs l) {i:Nat} (hi:i < cs.length) {x:Rat} (x0:0<=x) (x1:x<=(cs.sum:Rat)):dI (jpt w ws cs l i) x=FF w ws cs x i:=by
 obtain ⟨ok,la⟩:=zCL hw hc h hi
 have pt:∀ {k:Nat} {p:Pt},(jpt w ws cs l i)[k]?=some p->l[k]?=some p.1/\p.2=FF w ws cs p.1 i:=fun {k p} e=>by
  unfold jpt at e
  rw [List.getElem?_map] at e
  cases hk:l[k]? with
  | none=>rw [hk] at e;cases e
  | some a=>rw [hk] at e;cases e;exact ⟨rfl,rfl⟩
 rcases zEt ok.2 la (fun p hp=>by rw [ok.1] at hp;cases hp;exact x0) x1 with ⟨k,p,e1,e2⟩ | ⟨k,p,q,e1,e2,e3,e4⟩
 ·have v:=fN ok.2 e1
  rw [(pt e1).2,e2] at v
  exact v
 ·rw [kX ok.2 e1 e2 (Rat.le_of_lt e3) (Rat.le_of_lt e4)]
  obtain ⟨a1,a2⟩:=pt e1
  obtain ⟨b1,b2⟩:=pt e2
  obtain ⟨lt,j⟩:=zKl h.cn a1 b1
  have k:=j.2.2.2 i hi x (Rat.le_of_lt e3) (Rat.le_of_lt e4)
  have k':(FF w ws cs x i - FF w ws cs p.1 i) * (q.1 - p.1)=(x - p.1) * (FF w ws cs q.1 i - FF w ws cs p.1 i):=k
  unfold itp
  rw [a2,b2]
  generalize FF w ws cs x i=u at *
  generalize FF w ws cs p.1 i=v at *
  generalize FF w ws cs q.1 i=z at *
  have nz:q.1 - p.1≠0:=by grind
  refine kJ nz ?_
  have e:(x - p.1) / (q.1 - p.1) * (q.1 - p.1)=x - p.1:=Rat.div_mul_cancel nz
  generalize (x - p.1) / (q.1 - p.1)=r at *
  grind
def wln (w:Wy) (ws cs:List Int) (l:List Rat) (i:Nat):List Pt:=lP (jpt w ws cs l i)
theorem uO {w:Wy} {ws cs:List Int} {l:List Rat} (hw:w.due ws cs) (hc:Cl cs) (h:JS w ws cs l) {i:Nat} (hi:i < cs.length):zIG (wln w ws cs l i)/\(wln w ws cs l i).getLast?=some ((cs.sum:Rat),cR cs i)/\(∀ p∈wln w ws cs l i,p.1∈l/\p.2=FF w ws cs p.1 i)/\∀ x,0<=x->x<=(cs.sum:Rat)->dI (wln w ws cs l i) x=FF w ws cs x i:=by
 obtain ⟨ok,la⟩:=zCL hw hc h hi
 unfold wln
 refine ⟨zAG ok,by rw [zBE ok.2];exact la,fun p hp=>?_,fun x x0 x1=>by rw [zDc ok.2];exact zIT hw hc h hi x0 x1⟩
 have m:=(uY ok.2).subset hp
 unfold jpt at m
 obtain ⟨q,hq,rfl⟩:=List.mem_map.mp m
 exact ⟨hq,rfl⟩
theorem zID {w:Wy} {ws cs:List Int} {l l':List Rat} (hw:w.due ws cs) (hc:Cl cs) (h:JS w ws cs l) (h':JS w.con ws cs l') {i:Nat} (hi:i < cs.length):wln w.con ws cs l' i=trn (wln w ws cs l i) ((cs.sum:Rat),cR cs i):=by
 obtain ⟨a1,a2,_,a3⟩:=uO hw hc h hi
 obtain ⟨b1,b2,_,b3⟩:=uO (zBD hw) hc h' hi
 refine zIK b1 (zBR a1 a2) b2 (zGf a1.1.1) rfl fun x x0 x1=>?_
 have x1':x<=(cs.sum:Rat):=x1
 rw [b3 x x0 x1,zIw a1 a2 x0 x1]
 show _=cR cs i - dI (wln w ws cs l i) ((cs.sum:Rat) - x)
 rw [a3 _ (by grind) (by grind),<-zHC hw hc (q:=(cs.sum:Rat) - x) (by grind) (by grind) hi,show (cs.sum:Rat) - ((cs.sum:Rat) - x)=x by grind]
theorem rH:∀ {l m:List Rat},l.Perm m->l.Pairwise (·<=·)->m.Pairwise (·<=·)->l=m
 | [],m,p,_,_=>(List.nil_perm.mp p).symm
 | a::l,[],p,_,_=>by cases (List.perm_nil.mp p)
 | a::l,b::m,p,h,k=>by
  obtain ⟨h1,h2⟩:=List.pairwise_cons.mp h
  obtain ⟨k1,k2⟩:=List.pairwise_cons.mp k
  have e:a=b:=by
   have x:a<=b:=by
    rcases List.mem_cons.mp (p.mem_iff.mpr List.mem_cons_self) with e | e
    ·rw [e];exact Rat.le_refl
    ·exact h1 b e
   have y:b<=a:=by
    rcases List.mem_cons.mp (p.mem_iff.mp List.mem_cons_self) with e | e
    ·rw [e];exact Rat.le_refl
    ·exact k1 a e
   grind
  subst e
  rw [rH (List.perm_cons a |>.mp p) h2 k2]
theorem yT {cs:List Int} {cd:D} (sc:Sq cd cs) (hc:Cl cs):eK [cd]=.ok (.f ((rj cs 0).map dq)):=by
 have hi:=hc.hi
 have lp:∀ (r:List Int) (a:Int) (acc:List D) (s:Sl),acc.length+r.length<=1000->∃ a' s',dY (gName 3) lR (r.map D.int) [.val cd,.val (.int a),.own (acc++[dq (a:Rat)]),s]=.ok (.nx [.val cd,a',.own (acc++(rj r a).map dq),s']):=by
  intro r
  induction r with
  | nil=>intro a acc s _;exact ⟨_,s,rfl⟩
  | cons c r ih=>
   intro a acc s hl
   rw [List.length_cons] at hl
   obtain ⟨a',s',e⟩:=ih (a+c) (acc++[dq (a:Rat)]) (.val (.int c)) (by rw [List.length_append];simp;omega)
   refine ⟨a',s',?_⟩
   rw [List.map_cons,dR (ρ1:=[.val cd,.val (.int a),.own (acc++[dq (a:Rat)]),.val (.int c)]) (ρ2:=[.val cd,.val (.int (a+c)),.own (acc++[dq (a:Rat)]++[dq ((a+c:Int):Rat)]),.val (.int c)]) rfl (by
    walk_at "ev"
    rw [bV]
    walk_at "ev"
    rw [if_pos (by rw [List.length_append];simp;omega)]),e,rj,List.map_cons,List.append_assoc]
   rfl
 obtain ⟨a',s',e⟩:=lp cs 0 [] .un (by simp;omega)
 rw [List.nil_append,List.nil_append] at e
 unfold eK
 walk_at "ev"
 rw [sc.seq]
 walk_at "ev"
 have e0:dq ((0:Int):Rat)=dq 0:=rfl
 rw [e0] at e
 rw [e]
 walk_at "ev"
theorem zEP {ws cs:List Int} (h:Wt ws cs) {i:Nat} {pre post:List Nat} (hm:∀ j∈pre++i::post,j < cs.length) (so:(pre++i::post).Pairwise fun a b=>lv ws cs a<=lv ws cs b) (p:(pre++i::post).Perm (List.range cs.length)):QQ ws cs (lv ws cs i)=((wS cs pre:Int):Rat)+lv ws cs i * ((wS ws (i::post):Int):Rat):=by
 unfold QQ
 rw [<-rN p]
 have app:∀ (f:Nat->Rat) (a b:List Nat),hG f (a++b)=hG f a+hG f b:=by
  intro f a b
  induction a with
  | nil=>rw [List.nil_append,gO,Rat.zero_add]
  | cons x a ih=>rw [List.cons_append,bD,bD,ih];grind
 obtain ⟨s1,s2,s3⟩:=List.pairwise_append.mp so
 rw [app,dS (g:=cR cs) (l:=pre) fun j hj=>zEo h (hm j (List.mem_append_left _ hj)) (s3 j hj i List.mem_cons_self),kP]
 rw [dS (g:=fun j=>cR ws j * lv ws cs i) (l:=i::post) fun j hj=>zFR h (hm j (List.mem_append_right _ hj)) (by
  rcases List.mem_cons.mp hj with rfl | hj
  ·exact Rat.le_refl
  ·exact (List.pairwise_cons.mp s2).1 j hj),dF,kP]
theorem zKE {ws cs:List Int} (h:Wt ws cs) (hc:Cl cs) {i:Nat} (hi:i < cs.length):Sz 104 (lv ws cs i)/\Dn (ws.getD i 0) (lv ws cs i):=by
 have w:=h.at hi
 have c1:=hc.nn _ (List.mem_of_getElem? (bX hi))
 have c2:=hc.up _ (List.mem_of_getElem? (bX hi))
 refine ⟨?_,cs.getD i 0,?_⟩
 ·unfold lv cR
  rw [<-Rat.divInt_eq_div]
  exact Sz.of (by omega) (by omega) (by omega)
 ·have e:=zCi h hi
  have e':((ws.getD i 0:Int):Rat) * lv ws cs i=((cs.getD i 0:Int):Rat):=e
  rw [<-e']
  grind
theorem zIV {cs:List Int} (hn:∀ c∈cs,0<=c):∀ {π:List Nat},(∀ i∈π,i < cs.length)->0<=wS cs π
 | [],_=>by show (0:Int)<=0;decide
 | i::π,h=>by
  rw [kZ]
  have a:=hn _ (List.mem_of_getElem? (bX (h i List.mem_cons_self)))
  have b:=zIV hn fun j hj=>h j (List.mem_cons_of_mem _ hj)
  omega
theorem zHS (cs:List Int) (a b:List Nat):wS cs (a++b)=wS cs a+wS cs b:=by unfold wS;rw [List.map_append,List.sum_append]
theorem oE {ws cs:List Int} {wd cd:D} (sw:Sq wd ws) (sc:Sq cd cs) (h:Wt ws cs) (hc:Cl cs):∃ ls:List Rat,dC [wd,cd]=.ok (.f (((0::ls).map (QQ ws cs)).map dq))/\ls.Pairwise (·<=·)/\ls.Perm ((List.range cs.length).map (lv ws cs))/\QQ ws cs 0=0:=by
 have hcc:∀ c∈cs,0<=c/\c < 10^30:=fun c h=>⟨hc.nn c h,hc.up c h⟩
 have hi:=hc.hi
 have sm:=hc.sum
 have hw:=h.len
 have hkr:=uS (zHW h hcc) (by rw [vK hw];exact hi)
 generalize hkz:(lvs ws cs).map (zFV (qQ (lvs ws cs)))=kz at hkr
 have lz:kz.length=cs.length:=by rw [<-hkz,List.length_map,vK hw]
 have B0:(0:Rat) < (qQ (lvs ws cs):Rat):=by exact_mod_cast xJ (lvs ws cs)
 have kat:∀ i,i < cs.length->((kz.getD i 0:Int):Rat)=lv ws cs i * (qQ (lvs ws cs):Rat):=fun i h=>by
  have e:=zEh hw h
  have e2:kz.getD i 0=zFV (qQ (lvs ws cs)) (cR cs i / cR ws i):=by rw [<-hkz,List.getD_eq_getElem?_getD,List.getElem?_map,e];rfl
  rw [e2]
  exact zHx (List.mem_of_getElem? e)
 have z0:QQ ws cs 0=0:=by
  unfold QQ
  rw [dS (g:=fun i=>cR ws i * 0) fun i hi=>zFR h (List.mem_range.mp hi) (zGg h hc (List.mem_range.mp hi)),dF]
  grind
 have ord:∀ π,fU kz π->π.Perm (List.range cs.length)/\(∀ i∈π,i < cs.length)/\π.Pairwise fun a b=>lv ws cs a<=lv ws cs b:=by
  intro π hπ
  obtain ⟨hp,ho⟩:=hπ
  rw [lz] at hp
  have hm:∀ i∈π,i < cs.length:=fun i h=>List.mem_range.mp (hp.mem_iff.mp h)
  refine ⟨hp,hm,List.Pairwise.imp_of_mem (fun {i j} h1 h2 h3=>?_) ho⟩
  have h4:((kz.getD i 0:Int):Rat)<=((kz.getD j 0:Int):Rat):=Rat.intCast_le_intCast.mpr h3
  rw [kat i (hm i h1),kat j (hm j h2)] at h4
  exact Rat.le_of_mul_le_mul_right h4 B0
 obtain ⟨π0,hπ0⟩:=zAQ kz
 obtain ⟨p0,m0,s0⟩:=ord π0 hπ0
 have key:∀ π,fU kz π->π.map (lv ws cs)=π0.map (lv ws cs):=fun π hπ=>by
  obtain ⟨p1,m1,s1⟩:=ord π hπ
  exact rH ((p1.trans p0.symm).map _) (List.pairwise_map.mpr s1) (List.pairwise_map.mpr s0)
 refine ⟨π0.map (lv ws cs),?_,List.pairwise_map.mpr s0,p0.map _,z0⟩
 have lp:∀ (π:List Nat) (hπ:π.Perm (List.range cs.length)) (so:π.Pairwise fun a b=>lv ws cs a<=lv ws cs b) (post pre:List Nat) (acc:List D) (s:Sl),π=pre++post->acc.length+post.length<=100->∃ a' b' s',dY (gName 6) eS (iU post) [.val wd,.val cd,.val (.int (wS cs pre)),.val (.int (wS ws post)),.val (.lst ((lvs ws cs).map dq)),.own acc,s]=.ok (.nx [.val wd,.val cd,a',b',.val (.lst ((lvs ws cs).map dq)),.own (acc++post.map fun i=>dq (QQ ws cs (lv ws cs i))),s']):=by
  intro π hπ so post
  induction post with
  | nil=>intro pre acc s _ _;exact ⟨_,_,s,by rw [List.map_nil,List.append_nil];rfl⟩
  | cons i post ih=>
   intro pre acc s e hl
   have hm:∀ j∈pre++i::post,j < cs.length:=fun j hj=>List.mem_range.mp (hπ.mem_iff.mp (by rw [e];exact hj))
   have hii:=hm i (by simp)
   have ss:=zEP h hm (by rw [<-e];exact so) (by rw [<-e];exact hπ)
   have W:=h.sum (π:=i::post) fun j hj=>hm j (List.mem_append_right _ hj)
   have ln:(pre++i::post).length=cs.length:=by rw [<-e,hπ.length_eq,List.length_range]
   rw [List.length_append,List.length_cons] at ln
   rw [List.length_cons] at W hl
   have F0:=zIV hc.nn (π:=pre) fun j hj=>hm j (List.mem_append_left _ hj)
   have F1:wS cs pre<=cs.sum:=by
    have t:=xK (ws:=cs) (π:=pre++i::post) (by rw [<-e];exact hπ)
    rw [zHS] at t
    have:=zIV hc.nn (π:=i::post) fun j hj=>hm j (List.mem_append_right _ hj)
    omega
   obtain ⟨a',b',s',e'⟩:=ih (pre++[i]) (acc++[dq (QQ ws cs (lv ws cs i))]) (.val (.int (i:Nat))) (by rw [e];simp) (by rw [List.length_append];simp;omega)
   refine ⟨a',b',s',?_⟩
   have zl:=(zKE h hc hii).1
   have zW:Sz 24 ((wS ws (i::post):Int):Rat):=cJ (by omega) (by decide)
   have zF:Sz 105 ((wS cs pre:Int):Rat):=cJ (by omega) (by decide)
   have ixl:oIx (.lst ((lvs ws cs).map dq)) (.int (i:Int))=.ok (dq (lv ws cs i)):=pY (Int.natCast_nonneg i) (zEh hw hii)
   show dY _ _ (.int (i:Nat)::iU post) _=_
   rw [dR (ρ1:=[.val wd,.val cd,.val (.int (wS cs pre)),.val (.int (wS ws (i::post))),.val (.lst ((lvs ws cs).map dq)),.own acc,.val (.int (i:Nat))]) (ρ2:=[.val wd,.val cd,.val (.int (wS cs (pre++[i]))),.val (.int (wS ws post)),.val (.lst ((lvs ws cs).map dq)),.own (acc++[dq (QQ ws cs (lv ws cs i))]),.val (.int (i:Nat))]) rfl (by
    walk_at "ev"
    rw [bV]
    walk_at "ev"
    rw [ixl]
    walk_at "ev"
    rw [bV]
    walk_at "ev"
    rw [mP zl zW (by decide)]
    walk_at "ev"
    rw [zBL zF (zl.mul zW) (by decide),<-ss]
    walk_at "ev"
    rw [if_pos (by omega)]
    walk_at "ev"
    rw [sc.ix hii]
    walk_at "ev"
    rw [sw.ix (by omega)]
    walk_at "ev"
    rw [zHS,kZ ws,show wS cs [i]=cs.getD i 0 by unfold wS;simp,show ws.getD i 0+wS ws post - ws.getD i 0=wS ws post by omega]),e',List.append_assoc]
   rfl
 have one:∀ π,fU kz π->bJ (fun ρ=>dY (gName 6) eS (iU π) ρ) kW [.val wd,.val cd,.val (.int 0),.val (.int ws.sum),.val (.lst ((lvs ws cs).map dq)),.own [dq 0],.un]=.ok (.ret (.f (((0::π0.map (lv ws cs)).map (QQ ws cs)).map dq))):=by
  intro π hπ
  obtain ⟨p1,m1,s1⟩:=ord π hπ
  have lπ:π.length=cs.length:=by rw [p1.length_eq,List.length_range]
  obtain ⟨a',b',s',e⟩:=lp π p1 s1 π [] [dq 0] .un rfl (by simp;omega)
  rw [show wS cs []=0 from rfl,xK (ws:=ws) (π:=π) (by rw [hw];exact p1)] at e
  refine (zHv (a:=fun ρ=>dY (gName 6) eS (iU π) ρ) e).trans ?_
  rw [<-key π hπ,List.map_cons,z0,List.map_cons,List.map_map,List.map_map]
  rfl
 unfold dC
 walk_at "ev"
 rw [sw.sum]
 walk_at "ev"
 rw [sK sw sc h hi]
 walk_at "ev"
 unfold kQ
 rw [zFj (kz:=kz) (by walk_at "ev"; exact hkr) one]
 rfl
theorem pG {l:List Rat} {S:Int} (hl:l.length<=1000) (hz:∀ x∈l,Sz 300 x) (hS:S.natAbs < 2^105):fI [.lst (l.map dq),dq (S:Rat)]=.ok (.f ((l.reverse.map fun x=>(S:Rat) - x).map dq)):=by
 have zS:Sz 105 (S:Rat):=cJ hS (by decide)
 unfold fI
 walk_at "ev"
 rw [show (l.map dq).reverse=l.reverse.map dq by rw [List.map_reverse]]
 rw [fO (u:=dq) (g:=fun x=>dq ((S:Rat) - x)) (by rw [List.length_reverse];omega) (fun x hx=>by
  walk_at "ev"
  rw [eG zS (hz x (List.mem_reverse.mp hx)) (by decide)]
  walk_at "ev")]
 walk_at "ev"
 rw [List.map_map]
 rfl
theorem pP {l:List Rat} (hl:l.length<=900) (hz:∀ x∈0::l,Sz 300 x):cU [.lst ((0::l).map dq)]=.ok (.f ((0::ddR 0 l).map dq)):=by
 have lp:∀ (r:List Rat) (acc:List Rat) (k:Rat) (d:Sl) (s:Sl),(∀ x∈r,Sz 300 x)->Sz 300 k->acc.length+r.length<=1000->∃ s',dY (gName 2) gY (r.map dq) [d,.own ((acc++[k]).map dq),s]=.ok (.nx [d,.own ((acc++k::ddR k r).map dq),s']):=by
  intro r
  induction r with
  | nil=>intro acc k d s _ _ _;exact ⟨s,rfl⟩
  | cons x r ih=>
   intro acc k d s hr hk hl
   rw [List.length_cons] at hl
   have hx:=hr x List.mem_cons_self
   have ixk:oIx (.lst ((acc++[k]).map dq)) (.int (-1))=.ok (dq k):=zAP (k:=1) rfl (by decide) (by rw [List.length_append];simp) (by rw [List.length_append];simp)
   have hr':∀ y∈r,Sz 300 y:=fun y hy=>hr y (List.mem_cons_of_mem _ hy)
   rw [List.map_cons,ddR]
   by_cases z:k < x
   ·obtain ⟨s',e⟩:=ih (acc++[k]) x d (.val (dq x)) hr' hx (by rw [List.length_append];simp;omega)
    refine ⟨s',?_⟩
    rw [if_pos z,dR (ρ1:=[d,.own ((acc++[k]).map dq),.val (dq x)]) (ρ2:=[d,.own ((acc++[k]++[x]).map dq),.val (dq x)]) rfl (by
     cases d<;>(
      walk_at "ev"
      rw [ixk]
      walk_at "ev"
      rw [nZ hk hx (by decide),decide_eq_true z]
      walk_at "ev"
      rw [if_pos (by rw [List.length_append];simp;omega),List.map_append (l₁:=acc++[k])]
      rfl)),e,List.append_assoc]
    rfl
   ·obtain ⟨s',e⟩:=ih acc k d (.val (dq x)) hr' hk (by omega)
    refine ⟨s',?_⟩
    rw [if_neg z,dR (ρ1:=[d,.own ((acc++[k]).map dq),.val (dq x)]) (ρ2:=[d,.own ((acc++[k]).map dq),.val (dq x)]) rfl (by
     cases d<;>(
      walk_at "ev"
      rw [ixk]
      walk_at "ev"
      rw [nZ hk hx (by decide),decide_eq_false z]
      walk_at "ev")),e]
 obtain ⟨s',e⟩:=lp (0::l) [] 0 (.val (.lst ((0::l).map dq))) .un hz ⟨by decide,by decide⟩ (by simp;omega)
 rw [List.nil_append,List.nil_append,ddR,if_neg (by decide)] at e
 unfold cU
 walk_at "ev"
 rw [qO (by decide),show ((1:Int).toNat)=1 from rfl,show List.take 1 (dq 0::l.map dq)=[0].map dq from rfl]
 rw [List.map_cons] at e
 rw [e]
 rfl
theorem zMA {B S:Int} {x:Rat} (h:Dn B x) (hB:0 < B) (hB':B < 2^30) (h0:0<=x) (h1:x<=(S:Rat)) (hS:S < 2^104):Sz 300 x:=(h.sz (a:=104) (b:=30) hB hB' h0 h1 hS).mono (by decide)
def Jd (cs:List Int) (l:List Rat):Prop:=l.length<=30/\∀ x∈l,∃ B:Int,0 < B/\B<=2 * 10^6/\Dn B x
theorem zJm {w:Wy} {ws cs:List Int}:∀ {l:List Rat},Cn (Jt w ws cs) l->2<=l.length->∀ x∈l,0<=x/\x<=(cs.sum:Rat)
 | [],_,h,x,hx=>by cases hx
 | [a],_,h,x,hx=>by simp at h
 | [a,b],h,_,x,hx=>by
  obtain ⟨h1,h2,h3,_⟩:=h.1
  rcases List.mem_cons.mp hx with rfl | hx
  ·exact ⟨h1,Rat.le_trans h2 h3⟩
  ·rw [List.mem_singleton.mp hx];exact ⟨Rat.le_trans h1 h2,h3⟩
 | a::b::c::l,h,_,x,hx=>by
  obtain ⟨h1,h2,h3,_⟩:=h.1
  rcases List.mem_cons.mp hx with rfl | hx
  ·exact ⟨h1,Rat.le_trans h2 h3⟩
  ·exact zJm h.2 (by simp) x hx
theorem zHs:∀ (r:List Int) (a:Int),∀ x∈rj r a,∃ k:Int,x=(k:Rat)
 | [],a,x,h=>⟨a,List.mem_singleton.mp h⟩
 | c::r,a,x,h=>by
  rcases List.mem_cons.mp h with rfl | h
  ·exact ⟨a,rfl⟩
  ·exact zHs r (a+c) x h
theorem zHR:∀ (r:List Int) (a:Int),(rj r a).length=r.length+1/\(rj r a).getLast?=some ((a+r.sum:Int):Rat)
 | [],a=>⟨rfl,by show some (a:Rat)=_;rw [List.sum_nil,Int.add_zero]⟩
 | c::r,a=>by
  obtain ⟨h1,h2⟩:=zHR r (a+c)
  refine ⟨by rw [rj,List.length_cons,h1,List.length_cons],?_⟩
  obtain ⟨t,et⟩:=zBm r (a+c)
  rw [rj,et,List.getLast?_cons_cons,<-et,h2,List.sum_cons,Int.add_assoc]
theorem zIo {ws cs:List Int} (h:Wt ws cs) (hc:Cl cs) {ls:List Rat} (so:ls.Pairwise (·<=·)) (pm:ls.Perm ((List.range cs.length).map (lv ws cs))):∀ x∈(0::ls).map (QQ ws cs),∃ B:Int,0 < B/\B<=10^6/\Dn B x:=by
 have gd:∀ (t:Rat) (B:Int),Dn B t->Dn B (QQ ws cs t):=fun t B hB=>by
  have all:∀ l:List Nat,Dn B (hG (dU (cR cs) (cR ws) t) l):=by
   intro l
   induction l with
   | nil=>exact Dn.zero B
   | cons i l ih=>
    rw [bD]
    refine Dn.add (Dn.mn ?_ (Dn.int _ _)) ih
    obtain ⟨k,hk⟩:=hB
    refine ⟨ws.getD i 0 * k,?_⟩
    rw [Rat.intCast_mul,<-hk]
    show cR ws i * t * _=cR ws i * _
    grind
  exact all _
 intro x hx
 obtain ⟨t,ht,rfl⟩:=List.mem_map.mp hx
 rcases List.mem_cons.mp ht with rfl | ht
 ·exact ⟨1,by decide,by decide,gd 0 1 (Dn.zero 1)⟩
 ·obtain ⟨i,hi,rfl⟩:=List.mem_map.mp (pm.mem_iff.mp ht)
  have hi':=List.mem_range.mp hi
  have w:=h.at hi'
  exact ⟨ws.getD i 0,by omega,w.2,gd _ _ (zKE h hc hi').2⟩
theorem wM (w:Wy):aT.lookup w.s=some w.con.s:=by
 cases w
 ·exact zDE
 ·exact wO
 ·exact zBZ
 ·exact vW
 ·exact zCb
 ·exact wK
theorem zAk (w:Wy):cB [.str w.s]=.ok (.v (.str w.con.s)):=by
 have e:rY aT (.str w.s)=.ok (.str w.con.s):=by show zJW (aT.lookup w.s)=_;rw [wM];rfl
 unfold cB
 walk_at "ev"
 rw [jP (wM w)]
 walk_at "ev"
 rw [e]
 walk_at "ev"
theorem xL:∀ {l:List Rat} {e x:Rat},l.Pairwise (·<=·)->l.getLast?=some e->x∈l->x<=e
 | [],_,_,_,h,_=>by cases h
 | [a],e,x,_,h,hx=>by rw [List.mem_singleton.mp hx];cases h;exact Rat.le_refl
 | a::b::r,e,x,hp,h,hx=>by
  obtain ⟨p1,p2⟩:=List.pairwise_cons.mp hp
  rw [List.getLast?_cons_cons] at h
  rcases List.mem_cons.mp hx with rfl | hx
  ·exact Rat.le_trans (p1 b List.mem_cons_self) (xL p2 h List.mem_cons_self)
  ·exact xL p2 h hx
theorem zJI {ws cs:List Int} (h:Wt ws cs) (hc:Cl cs) {ls:List Rat} (so:ls.Pairwise (·<=·)) (pm:ls.Perm ((List.range cs.length).map (lv ws cs))) (z0:QQ ws cs 0=0):JL .even ws cs ((0::ls).map (QQ ws cs)):=by
 have hm:∀ i,i < cs.length->lv ws cs i∈ls:=fun i hi=>pm.mem_iff.mpr (List.mem_map.mpr ⟨i,List.mem_range.mpr hi,rfl⟩)
 have h0:∀ x∈ls,0<=x:=fun x hx=>by
  obtain ⟨i,hi,rfl⟩:=List.mem_map.mp (pm.mem_iff.mp hx)
  exact zGg h hc (List.mem_range.mp hi)
 refine ⟨zIY h hc so hm h0,by rw [List.map_cons,z0];rfl,?_⟩
 rw [List.getLast?_map]
 obtain ⟨e,he⟩:∃ e,(0::ls).getLast?=some e:=⟨_,List.getLast?_eq_some_getLast (by simp)⟩
 rw [he]
 have so':(0::ls).Pairwise (·<=·):=List.pairwise_cons.mpr ⟨h0,so⟩
 refine congrArg some ?_
 unfold QQ
 rw [dS (g:=cR cs) fun i hi=>zEo h (List.mem_range.mp hi) (xL so' he (List.mem_cons_of_mem _ (hm i (List.mem_range.mp hi))))]
 exact pT cs
theorem zHo {w:Wy} {ws cs:List Int} (hw:w.due ws cs) (hc:Cl cs) {l:List Rat} (h:JL w ws cs l):JL w.con ws cs (l.reverse.map fun x=>(cs.sum:Rat) - x):=by
 refine ⟨zEa (fun a b k=>zHz hw hc k) h.cn,?_,?_⟩
 ·rw [List.head?_map,List.head?_reverse,h.la]
  show some ((cs.sum:Rat) - (cs.sum:Rat))=some 0
  rw [show (cs.sum:Rat) - (cs.sum:Rat)=0 by grind]
 ·rw [List.getLast?_map,List.getLast?_reverse,h.hd]
  show some ((cs.sum:Rat) - 0)=_
  rw [show (cs.sum:Rat) - 0=(cs.sum:Rat) by grind]
theorem zIN {cs:List Int} (hc:Cl cs) {l:List Rat} (h:JL .even (ones cs) cs l):JL .half [] cs (l.map (· * hf)++(l.map (· * hf)).reverse.map fun x=>(cs.sum:Rat) - x):=by
 have c1:Cn (Jt .half [] cs) (l.map (· * hf)):=zDP (fun a b k=>zIz hc k) h.cn
 have c2:Cn (Jt .half [] cs) ((l.map (· * hf)).reverse.map fun x=>(cs.sum:Rat) - x):=zEa (fun a b k=>zHz (w:=.half) (ws:=[]) rfl hc k) c1
 have s0:(0:Rat)<=(cs.sum:Rat):=by exact_mod_cast hc.sum.1
 have hh:hf+hf=1:=by rw [pK];grind
 have h0:(0:Rat)<=hf:=by rw [pK];grind
 have m0:=Rat.mul_nonneg s0 h0
 refine ⟨zEm c1 c2 fun x y hx hy=>?_,?_,?_⟩
 ·rw [List.getLast?_map,h.la] at hx
  rw [List.head?_map,List.head?_reverse,List.getLast?_map,h.la] at hy
  cases hx
  cases hy
  have e:(cs.sum:Rat) - (cs.sum:Rat) * hf=(cs.sum:Rat) * hf:=by
   generalize (cs.sum:Rat)=S at *
   generalize hf=H at *
   grind
  show Jt .half [] cs ((cs.sum:Rat) * hf) ((cs.sum:Rat) - (cs.sum:Rat) * hf)
  rw [e]
  refine ⟨m0,Rat.le_refl,by grind,fun i hi x x1 x2=>?_⟩
  have:x=(cs.sum:Rat) * hf:=by grind
  subst this
  grind
 ·cases l with
  | nil=>cases h.hd
  | cons a l=>
   cases h.hd
   show some ((0:Rat) * hf)=some 0
   rw [Rat.zero_mul]
 ·have ne:((l.map (· * hf)).reverse.map fun x=>(cs.sum:Rat) - x).getLast?=some (cs.sum:Rat):=by
   rw [List.getLast?_map,List.getLast?_reverse,List.head?_map,h.hd]
   show some ((cs.sum:Rat) - 0 * hf)=_
   rw [show (cs.sum:Rat) - 0 * hf=(cs.sum:Rat) by grind]
  rw [List.getLast?_append,ne]
  rfl
theorem zJU {w:Wy} {ws cs:List Int} (hc:Cl cs) {l:List Rat} (h:JL w ws cs l) (h2:2<=l.length) (d:Jd cs l):∀ x∈l,Sz 300 x:=fun x hx=>by
 obtain ⟨b0,b1⟩:=zJm h.cn h2 x hx
 obtain ⟨B,B0,B1,dn⟩:=d.2 x hx
 exact zMA dn B0 (by omega) b0 b1 hc.sum.2
theorem zJz {w:Wy} {ws cs:List Int} {l:List Rat} (h:JL w ws cs l):∃ t,l=0::t:=by
 cases l with
 | nil=>cases h.hd
 | cons a t=>cases h.hd;exact ⟨t,rfl⟩
section
variable {n:Nat} {ws cs:List Int} {wd cd e:D}
theorem zLv (sc:Sq cd cs) (hc:Cl cs):bI (n+1) [.str (Str.ofString "row"),e,cd]=.ok (.f ((rj cs 0).map dq)):=by
 show bW (bI n) _=_
 unfold bW
 walk_at "ev"
 rw [sc.sum]
 walk_at "ev"
 rw [bV]
 walk_at "ev"
 rw [yT sc hc]
 walk_at "ev"
theorem zHu (sw:Sq wd ws) (sc:Sq cd cs) (h:Wt ws cs) (hc:Cl cs):∃ ls:List Rat,bI (n+1) [.str (Str.ofString "even"),wd,cd]=.ok (.f (((0::ls).map (QQ ws cs)).map dq))/\ls.Pairwise (·<=·)/\ls.Perm ((List.range cs.length).map (lv ws cs))/\QQ ws cs 0=0:=by
 obtain ⟨ls,e1,e2,e3,e4⟩:=oE sw sc h hc
 refine ⟨ls,?_,e2,e3,e4⟩
 show bW (bI n) _=_
 unfold bW
 walk_at "ev"
 rw [sc.sum]
 walk_at "ev"
 rw [bV]
 walk_at "ev"
 rw [zNB]
 walk_at "ev"
 rw [e1]
 walk_at "ev"
theorem zKV (sc:Sq cd cs):bI (n+1) [.str (Str.ofString "part"),e,cd]=.ok (.f ([0,(cs.sum:Rat)].map dq)):=by
 show bW (bI n) _=_
 unfold bW
 walk_at "ev"
 rw [sc.sum]
 walk_at "ev"
 rw [bV]
 walk_at "ev"
 rw [zNy]
 walk_at "ev"
 rw [zNu]
 walk_at "ev"
theorem zLy (sc:Sq cd cs) (hc:Cl cs):∃ ls:List Rat,bI (n+1) [.str (Str.ofString "half"),e,cd]=.ok (.f ((((0::ls).map (QQ (ones cs) cs)).map (· * hf)++(((0::ls).map (QQ (ones cs) cs)).map (· * hf)).reverse.map fun x=>(cs.sum:Rat) - x).map dq))/\ls.Pairwise (·<=·)/\ls.Perm ((List.range cs.length).map (lv (ones cs) cs))/\QQ (ones cs) cs 0=0:=by
 obtain ⟨ls,e1,e2,e3,e4⟩:=oE (wd:=.lst ((ones cs).map D.int)) (.inl rfl) sc (iH cs) hc
 have hi:=hc.hi
 have sm:=hc.sum
 have W:=iH cs
 have jl:=zJI W hc e2 e3 e4
 have ll:((0::ls).map (QQ (ones cs) cs)).length=cs.length+1:=by rw [List.length_map,List.length_cons,e3.length_eq,List.length_map,List.length_range]
 have bd:=zJm jl.cn (by rw [ll];have:=hc.lo;omega)
 have dn:=zIo W hc e2 e3
 refine ⟨ls,?_,e2,e3,e4⟩
 generalize (0::ls).map (QQ (ones cs) cs)=l at *
 have zl:∀ x∈l,Sz 134 x:=fun x hx=>by
  obtain ⟨B,B0,B1,d⟩:=dn x hx
  exact d.sz (a:=104) (b:=30) B0 (by omega) (bd x hx).1 (bd x hx).2 sm.2
 have eo:(ones cs).map D.int=List.replicate cs.length (.int 1):=by unfold ones;rw [List.map_replicate]
 rw [eo] at e1
 have hh:=zLS
 unfold d_HALF at hh
 show bW (bI n) _=_
 unfold bW
 walk_at "ev"
 rw [sc.sum]
 walk_at "ev"
 rw [bV]
 walk_at "ev"
 rw [zNf]
 walk_at "ev"
 rw [zMq]
 walk_at "ev"
 rw [zMJ]
 walk_at "ev"
 rw [sc.len]
 walk_at "ev"
 rw [zCq (by omega)]
 walk_at "ev"
 rw [e1]
 walk_at "ev"
 rw [fO (u:=dq) (g:=fun x=>dq (x * hf)) (by omega) (fun x hx=>by
  walk_at "ev"
  rw [hh,mP (zl x hx) zDG (by decide)]
  walk_at "ev")]
 walk_at "ev"
 have lm:l.map (fun x=>dq (x * hf))=(l.map (· * hf)).map dq:=by rw [List.map_map];rfl
 rw [lm,pG (S:=cs.sum) (by rw [List.length_map];omega) (fun x hx=>by
  obtain ⟨y,hy,rfl⟩:=List.mem_map.mp hx
  exact ((zl y hy).mul zDG).mono (by decide)) (by omega)]
 walk_at "ev"
 rw [if_pos (by simp only [List.length_reverse,List.length_map];omega),List.map_append]
 walk_at "ev"
end
def SzQ (a b:Nat) (p:Pt):Prop:=Sz a p.1/\Sz b p.2
theorem yK {a b c:Pt} {n m:Nat} (ha:SzQ n m a) (hb:SzQ n m b) (hc:SzQ n m c) (h:2 * n+2 * m+2<=8999):fX [dp a,dp b,dp c]=.ok (.v (.bl (btw a b c))):=by
 unfold fX
 walk_at "ev"
 rw [eG hb.2 ha.2 (by omega)]
 walk_at "ev"
 rw [eG hc.2 hb.2 (by omega)]
 walk_at "ev"
 rw [eG hb.1 ha.1 (by omega)]
 walk_at "ev"
 rw [eG hc.1 hb.1 (by omega)]
 walk_at "ev"
 rw [mP (hb.2.sub ha.2) (hc.1.sub hb.1) (by omega)]
 walk_at "ev"
 rw [mP (hc.2.sub hb.2) (hb.1.sub ha.1) (by omega)]
 walk_at "ev"
 rfl
theorem zI {d:D} {ps:List Pt} {n m:Nat} (hd:d=.lst (ps.map dp)∨d=.tup (ps.map dp)) (hl:ps.length<=100000) (hs:∀ p∈ps,SzQ n m p) (hn:2 * n+2 * m+2<=8999) (hk:Ok ps):fV [d]=.ok (.v .non):=by
 obtain ⟨hh,hp⟩:=hk
 have ln:nA [d]=.ok (.int (ps.length:Int)):=by rcases hd with rfl | rfl<;>simp [bLen_l,bLen_t]
 have ix:∀ (i:Int) (k:Nat) (a:Pt),i=(k:Int)->ps[k]?=some a->oIx d (.int i)=.ok (dp a):=by
  intro i k a hi ha
  subst hi
  rcases hd with rfl | rfl
  ·exact pY (by omega) (by simpa using ha)
  ·exact gG (by omega) (by simpa using ha)
 clear hd
 have hpos:0 < ps.length:=by cases ps with
  | nil=>cases hh
  | cons a r=>exact Nat.succ_pos _
 have h0:ps[0]?=some (0,0):=by rw [<-List.head?_eq_getElem?];exact hh
 unfold fV
 walk_at "ev"
 rw [ln]
 walk_at "ev"
 rw [decide_eq_false (by omega)]
 walk_at "ev"
 rw [ix 0 0 _ rfl h0]
 walk_at "ev"
 rw [ln]
 walk_at "ev"
 rw [zJA (by omega) (by omega) (by omega) (by omega)]
 walk_at "ev"
 refine sN (Q:=fun r=>r=Res.ok (Rt.v D.non)) (fun i ρ=>∃ a b c,ρ=[.val d,a,b,c]) ⟨_,_,_,rfl⟩ ?_ ?_
 ·rintro i e ρ hd ⟨a,b,c,rfl⟩
  obtain ⟨hi,rfl⟩:=zDD hd
  have h1:ps[i]?=some ps[i]:=List.getElem?_eq_getElem _
  have h2:ps[i+1]?=some ps[i+1]:=List.getElem?_eq_getElem _
  have z1:=hs _ (List.mem_of_getElem? h1)
  have z2:=hs _ (List.mem_of_getElem? h2)
  have za:=qX hp (Nat.lt_succ_self i) h1 h2
  generalize ps[i]=u at h1 z1 za
  generalize ps[i+1]=v at h2 z2 za
  walk_at "ev"
  rw [ix _ i _ (by omega) h1]
  walk_at "ev"
  rw [ix _ (i+1) _ (by omega) h2]
  walk_at "ev"
  rw [nZ z1.1 z2.1 (by omega)]
  walk_at "ev"
  rw [decide_eq_true za.1]
  walk_at "ev"
  rw [nZ z2.2 z1.2 (by omega)]
  walk_at "ev"
  rw [decide_eq_false (by rw [Rat.not_lt];exact za.2)]
  walk_at "ev"
  exact ⟨_,rfl,_,_,_,rfl⟩
 ·rintro ρ' ⟨a,b,c,rfl⟩
  rfl
theorem zFA {d:D} {ps:List Pt} {n m:Nat} (hd:d=.lst (ps.map dp)∨d=.tup (ps.map dp)) (hl:ps.length<=100000) (hs:∀ p∈ps,SzQ n m p) (hn:2 * n+2 * m+2<=8999) (hk:Ok ps):kY [d]=.ok (.v (.tup ((lP ps).map dp))):=by
 have sq:zHD d=.ok (ps.map dp):=by rcases hd with rfl | rfl<;>rfl
 unfold kY
 walk_at "ev"
 rw [zI hd hl hs hn hk]
 walk_at "ev"
 rw [sq]
 walk_at "ev"
 refine sN (Q:=fun r=>r.bind fin=.ok (.v (.tup ((lP ps).map dp)))) (fun i ρ=>∃ a,ρ=[.val d,.own (((ps.take i).foldl push []).reverse.map dp),a]/\(∀ p∈(ps.take i).foldl push [],SzQ n m p)/\((ps.take i).foldl push []).length<=i) ⟨_,rfl,fun p hp=>by (rw [List.take_zero] at hp;cases hp),by rw [List.take_zero];exact Nat.le_refl _⟩ ?_ ?_
 ·rintro i e ρ hd ⟨a,rfl,hz,hlen⟩
  rw [List.getElem?_map] at hd
  cases hq:ps[i]? with
  | none=>rw [hq] at hd;cases hd
  | some p=>
   rw [hq] at hd
   cases hd
   have hi:i < ps.length:=(List.getElem?_eq_some_iff.mp hq).1
   have zp:=hs _ (List.mem_of_getElem? hq)
   rw [zDf hq,List.foldl_append,List.foldl_cons,List.foldl_nil]
   generalize (ps.take i).foldl push []=s at hz hlen
   generalize hK:(sF:Sv)=K
   walk_at "ev"
   by_cases hc:1 < s.length
   case neg=>
    rw [List.length_reverse,decide_eq_false (by omega)]
    subst hK
    walk_at "ev"
    rw [if_pos (by rw [List.length_reverse];omega),zDh hc]
    exact ⟨_,rfl,.val (dp p),by simp,by intro q hq;rcases List.mem_cons.mp hq with rfl | hq;exact zp;exact hz q hq,by simp;omega⟩
   match s,hz,hlen,hc with
   | [],_,_,hc=>exact absurd hc (by decide)
   | [b],_,_,hc=>exact absurd hc (by simp)
   | b::a::s,hz,hlen,_=>
    have za:=hz a (List.mem_cons_of_mem _ List.mem_cons_self)
    have zb:=hz b List.mem_cons_self
    have zs:∀ q∈s,SzQ n m q:=fun q hq=>hz q (List.mem_cons_of_mem _ (List.mem_cons_of_mem _ hq))
    have e1:((b::a::s).reverse)[(b::a::s).reverse.length - 1]?=some b:=by simp
    have e2:((b::a::s).reverse)[(b::a::s).reverse.length - 2]?=some a:=by simp
    rw [List.length_cons,List.length_cons] at hlen
    have hll:(b::a::s).reverse.length=s.length+2:=by simp
    rw [hll]
    rw [decide_eq_true (by omega)]
    walk_at "ev"
    rw [zAP (i:=-2) (k:=2) rfl (by decide) (by rw [hll];omega) e2]
    walk_at "ev"
    rw [zAP (i:=-1) (k:=1) rfl (by decide) (by rw [hll];omega) e1]
    walk_at "ev"
    rw [yK za zb zp hn]
    walk_at "ev"
    cases hb:btw a b p with
    | false=>
     subst hK
     walk_at "ev"
     rw [hll,if_pos (by omega)]
     refine ⟨_,rfl,.val (dp p),?_,?_,?_⟩
     ·rw [push,hb]
      simp
     ·rw [push,hb]
      intro q hq
      rcases List.mem_cons.mp hq with rfl | hq
      ·exact zp
      ·exact hz q hq
     ·rw [push,hb]
      simp;omega
    | true=>
     subst hK
     walk_at "ev"
     rw [hll,if_neg (by omega)]
     walk_at "ev"
     rw [if_pos (by simp;omega)]
     refine ⟨_,rfl,.val (dp p),?_,?_,?_⟩
     ·rw [push,hb]
      simp
     ·rw [push,hb]
      intro q hq
      rcases List.mem_cons.mp hq with rfl | hq
      ·exact zp
      ·exact hz q (List.mem_cons_of_mem _ hq)
     ·rw [push,hb]
      simp;omega
 ·rintro ρ' ⟨a,rfl,_,_⟩
  rw [List.length_map,List.take_length]
  walk_at "ev"
  rfl
theorem zLg {w:Wy} {ws cs:List Int} {wd cd:D} {l:List Rat} (hw:w=.back∨w=.lack) (sc:Sq cd cs) (hc:Cl cs) (hl:l.length<=30) (hz:∀ x∈l,Sz 300 x) (e:bI 1 [.str w.con.s,wd,cd]=.ok (.f (l.map dq))):bI 2 [.str w.s,wd,cd]=.ok (.f ((l.reverse.map fun x=>(cs.sum:Rat) - x).map dq)):=by
 have sm:=hc.sum
 have c:=zAk w
 show bW (bI 1) _=_
 unfold bW
 walk_at "ev"
 rw [sc.sum]
 walk_at "ev"
 rw [bV]
 walk_at "ev"
 rcases hw with rfl | rfl
 ·rw [show Wy.back.s=Str.ofString "back" from rfl,zNV]
  walk_at "ev"
  rw [zNq]
  walk_at "ev"
  rw [zNN]
  walk_at "ev"
  rw [zNQ]
  walk_at "ev"
  rw [show Str.ofString "back" = Wy.back.s from rfl,c]
  walk_at "ev"
  rw [e]
  walk_at "ev"
  rw [pG (by omega) hz (by omega)]
  walk_at "ev"
 ·rw [show Wy.lack.s=Str.ofString "lack" from rfl,zNv]
  walk_at "ev"
  rw [zNW]
  walk_at "ev"
  rw [zNH]
  walk_at "ev"
  rw [zNK]
  walk_at "ev"
  rw [show Str.ofString "lack" = Wy.lack.s from rfl,c]
  walk_at "ev"
  rw [e]
  walk_at "ev"
  rw [pG (by omega) hz (by omega)]
  walk_at "ev"
theorem zHY {cs:List Int} {l:List Rat} (h:Jd cs l):Jd cs (l.reverse.map fun x=>(cs.sum:Rat) - x):=by
 refine ⟨by rw [List.length_map,List.length_reverse];exact h.1,fun x hx=>?_⟩
 obtain ⟨y,hy,rfl⟩:=List.mem_map.mp hx
 obtain ⟨B,b0,b1,d⟩:=h.2 y (List.mem_reverse.mp hy)
 exact ⟨B,b0,b1,(Dn.int B cs.sum).sub d⟩
theorem zHe {w:Wy} {ws cs:List Int} {wd cd:D} (sw:Sq wd ws) (sc:Sq cd cs) (hw:w.due ws cs) (hc:Cl cs):∃ l:List Rat,bI 2 [.str w.s,wd,cd]=.ok (.f (l.map dq))/\JL w ws cs l/\Jd cs l/\2<=l.length:=by
 have hi:=hc.hi
 have lo:=hc.lo
 have row:JL .row [] cs (rj cs 0)/\Jd cs (rj cs 0)/\2<=(rj cs 0).length:=by
  obtain ⟨l1,l2⟩:=zHR cs 0
  refine ⟨⟨zLL hc,?_,by rw [l2,Int.zero_add]⟩,⟨by omega,fun x hx=>?_⟩,by omega⟩
  ·obtain ⟨t,et⟩:=zBm cs 0
   rw [et];rfl
  ·obtain ⟨k,rfl⟩:=zHs cs 0 x hx
   exact ⟨1,by decide,by decide,Dn.int 1 k⟩
 have evn:∀ ls:List Rat,Wt ws cs->ls.Pairwise (·<=·)->ls.Perm ((List.range cs.length).map (lv ws cs))->QQ ws cs 0=0->JL .even ws cs ((0::ls).map (QQ ws cs))/\Jd cs ((0::ls).map (QQ ws cs))/\2<=((0::ls).map (QQ ws cs)).length:=fun ls W e2 e3 e4=>by
  have ll:((0::ls).map (QQ ws cs)).length=cs.length+1:=by rw [List.length_map,List.length_cons,e3.length_eq,List.length_map,List.length_range]
  refine ⟨zJI W hc e2 e3 e4,⟨by omega,fun x hx=>?_⟩,by omega⟩
  obtain ⟨B,b0,b1,d⟩:=zIo W hc e2 e3 x hx
  exact ⟨B,b0,by omega,d⟩
 cases w with
 | row=>
  have e:ws=[]:=hw
  subst e
  exact ⟨_,zLv (n:=1) (e:=wd) sc hc,row⟩
 | part=>
  have e:ws=[]:=hw
  subst e
  refine ⟨_,zKV (n:=1) (e:=wd) sc,⟨zJr hc,rfl,rfl⟩,⟨by show 2<=30;decide,fun x hx=>?_⟩,Nat.le_refl 2⟩
  rcases List.mem_cons.mp hx with rfl | hx
  ·exact ⟨1,by decide,by decide,Dn.zero 1⟩
  ·rw [List.mem_singleton.mp hx];exact ⟨1,by decide,by decide,Dn.int 1 _⟩
 | even=>
  obtain ⟨ls,e1,e2,e3,e4⟩:=zHu (n:=1) sw sc hw hc
  exact ⟨_,e1,evn ls hw e2 e3 e4⟩
 | back=>
  have e:ws=[]:=hw
  subst e
  have k:=zLg (w:=.back) (ws:=[]) (.inl rfl) sc hc row.2.1.1 (zJU hc row.1 row.2.2 row.2.1) (zLv (n:=0) (e:=wd) sc hc)
  exact ⟨_,k,zHo (w:=.row) rfl hc row.1,zHY row.2.1,by rw [List.length_map,List.length_reverse];exact row.2.2⟩
 | lack=>
  obtain ⟨ls,e1,e2,e3,e4⟩:=zHu (n:=0) sw sc hw hc
  obtain ⟨r1,r2,r3⟩:=evn ls hw e2 e3 e4
  have k:=zLg (w:=.lack) (ws:=ws) (.inr rfl) sc hc r2.1 (zJU hc r1 r3 r2) e1
  exact ⟨_,k,zHo (w:=.even) hw hc r1,zHY r2,by rw [List.length_map,List.length_reverse];exact r3⟩
 | half=>
  have e:ws=[]:=hw
  subst e
  obtain ⟨ls,e1,e2,e3,e4⟩:=zLy (n:=1) (e:=wd) sc hc
  have W:=iH cs
  have ll:((0::ls).map (QQ (ones cs) cs)).length=cs.length+1:=by rw [List.length_map,List.length_cons,e3.length_eq,List.length_map,List.length_range]
  have jl:=zJI W hc e2 e3 e4
  have dn:=zIo W hc e2 e3
  generalize (0::ls).map (QQ (ones cs) cs)=l at *
  refine ⟨_,e1,zIN hc jl,⟨?_,fun x hx=>?_⟩,?_⟩
  ·simp only [List.length_append,List.length_map,List.length_reverse];omega
  ·have early:∀ y∈l.map (· * hf),∃ B:Int,0 < B/\B<=2 * 10^6/\Dn B y:=fun y hy=>by
    obtain ⟨z,hz,rfl⟩:=List.mem_map.mp hy
    obtain ⟨B,b0,b1,d⟩:=dn z hz
    exact ⟨B * 2,by omega,by omega,zNe d⟩
   rcases List.mem_append.mp hx with hx | hx
   ·exact early x hx
   ·obtain ⟨y,hy,rfl⟩:=List.mem_map.mp hx
    obtain ⟨B,b0,b1,d⟩:=early y (List.mem_reverse.mp hy)
    exact ⟨B,b0,b1,(Dn.int B cs.sum).sub d⟩
  ·simp only [List.length_append,List.length_map,List.length_reverse];omega
theorem zBX {α:Type}:∀ l:List α,l.zip l=l.map fun x=>(x,x)
 | []=>rfl
 | a::l=>by rw [List.zip_cons_cons,zBX l,List.map_cons]
theorem rR {w:Wy} {ws cs:List Int} {wd cd:D} (sw:Sq wd ws) (sc:Sq cd cs) (hw:w.due ws cs) (hc:Cl cs):∃ J:List Rat,cO [.str w.s,wd,cd]=.ok (.f ((List.range cs.length).map fun i=>.tup ((wln w ws cs J i).map dp)))/\JS w ws cs J/\J.length<=30/\∀ x∈J,Sz 300 x/\∀ i,i < cs.length->Sz 670 (FF w ws cs x i):=by
 obtain ⟨l,e1,jl,jd,l2⟩:=zHe sw sc hw hc
 have zl:=zJU hc jl l2 jd
 obtain ⟨t,rfl⟩:=zJz jl
 have js:=jl.js
 have hi:=hc.hi
 have lt:=jd.1
 rw [List.length_cons] at lt
 have e2:=pP (l:=t) (by omega) zl
 have sub:=zDy t 0
 have ln:(0::ddR 0 t).length<=30:=by rw [List.length_cons];have:=sub.length_le;omega
 have zj:∀ x∈0::ddR 0 t,Sz 300 x:=fun x hx=>zl x (by
  rcases List.mem_cons.mp hx with rfl | hx
  ·exact List.mem_cons_self
  ·exact List.mem_cons_of_mem _ (sub.subset hx))
 generalize 0::ddR 0 t=J at *
 have bd:=js.bd
 have rd:∀ q∈J,aN 2 [.str w.s,wd,cd,dq q]=.ok (.f (((List.range cs.length).map (FF w ws cs q)).map dq))/\∀ i,i < cs.length->Sz 670 (FF w ws cs q i):=fun q hq=>by
  have ha:Haul 300 q cs.sum:=⟨(bd q hq).1,(bd q hq).2,zj q hq⟩
  obtain ⟨f,ef,af⟩:=yS sw sc (by decide) hw hc ha
  have df:=zIP hw hc ha af
  have eq:∀ i,i < cs.length->f i=FF w ws cs q i:=fun i hi=>zFQ hw hc (bd q hq).1 (bd q hq).2 af hi
  refine ⟨by rw [ef,List.map_congr_left (g:=FF w ws cs q) fun i hi=>eq i (List.mem_range.mp hi)],fun i hi=>by rw [<-eq i hi];exact (df.bd i hi).2.2⟩
 refine ⟨J,?_,js,ln,fun x hx=>⟨zj x hx,(rd x hx).2⟩⟩
 unfold cO
 walk_at "ev"
 rw [zBK sw sc hw hc]
 walk_at "ev"
 rw [e1]
 walk_at "ev"
 rw [List.map_cons] at e2
 rw [e2]
 walk_at "ev"
 rw [fO (u:=dq) (g:=fun q=>D.lst (((List.range cs.length).map (FF w ws cs q)).map dq)) (by omega) (fun q hq=>by
  walk_at "ev"
  rw [(rd q hq).1]
  walk_at "ev")]
 walk_at "ev"
 rw [sc.len]
 walk_at "ev"
 rw [sC (by omega) (by omega)]
 walk_at "ev"
 rw [show rng 0 ((cs.length:Int)).toNat 1=(List.range cs.length).map fun j:Nat=>D.int (j:Int) by unfold rng;rw [Int.toNat_natCast];exact List.map_congr_left fun j _=>by rw [show (0:Int)+(j:Int) * 1=(j:Int) by omega]]
 rw [fO (u:=fun j:Nat=>D.int (j:Int)) (g:=fun i=>D.tup ((wln w ws cs J i).map dp)) (by rw [List.length_range];omega) (fun i hi=>by
  have hi':=List.mem_range.mp hi
  have fl:kD [.lst (J.map dq),.lst (J.map fun q=>D.lst (((List.range cs.length).map (FF w ws cs q)).map dq)),.int (i:Int)]=.ok (.v (.tup ((wln w ws cs J i).map dp))):=by
   obtain ⟨ok,la⟩:=zCL hw hc js hi'
   unfold kD
   walk_at "ev"
   rw [qZ rfl rfl]
   walk_at "ev"
   rw [kN (u:=dq) (v:=fun q=>D.lst (((List.range cs.length).map (FF w ws cs q)).map dq)) (g:=fun x y=>dp (x,FF w ws cs y i)) (by omega) (fun p hp=>by
    have e:oIx (.lst (((List.range cs.length).map (FF w ws cs p.2)).map dq)) (.int (i:Int))=.ok (dq (FF w ws cs p.2 i)):=by
     rw [List.map_map]
     exact pY (Int.natCast_nonneg i) (show (List.range cs.length)[i]?=some i from List.getElem?_range hi')
    walk_at "ev"
    rw [e]
    walk_at "ev")]
   walk_at "ev"
   rw [zBX,List.map_map,show (J.map ((fun p:Rat×Rat=>dp (p.1,FF w ws cs p.2 i)) ∘ fun x=>(x,x)))=(jpt w ws cs J i).map dp by unfold jpt;rw [List.map_map];rfl]
   rw [zFA (n:=300) (m:=670) (.inl rfl) (by unfold jpt;rw [List.length_map];omega) (fun p hp=>by
    unfold jpt at hp
    obtain ⟨q,hq,rfl⟩:=List.mem_map.mp hp
    exact ⟨zj q hq,(rd q hq).2 i hi'⟩) (by decide) ok]
   walk_at "ev"
   rfl
  walk_at "ev"
  rw [fl]
  walk_at "ev")]
 walk_at "ev"
theorem lH {t b:Int} {n:Nat} (hb0:b≠0) (hn:b.natAbs < 2^n) (h:n<=8999):cW [.int t,.int b]=.ok (.v (dq (Rat.divInt t b))):=by
 have hd:kB (dv t b)=true:=qT (zLz hb0) (Nat.lt_of_le_of_lt (zLB hb0) hn) h
 unfold cW
 walk_at "ev"
 refine zHp (fun ρ=>∃ (x y:Int) (r:Sl),ρ=[.val (.int t),.val (.int b),.val (.int x),.val (.int y),r]/\0<=x/\0<=y/\Int.gcd x y=Int.gcd t b) (fun ρ=>(slI 3 ρ).toNat)
  (fun r=>(r.bind (zHF qA)).bind fin=.ok (.v (dq (Rat.divInt t b)))) ⟨_,_,_,rfl,by omega,by omega,by simp [Int.gcd]⟩ ?_
 rintro ρ ⟨x,y,r,rfl,hx,hy,hg⟩
 by_cases c:y=0
 ·subst c
  have e2:x=(Int.gcd t b:Int):=by
   rw [Int.gcd_zero_right] at hg
   omega
  subst e2
  refine .inl ⟨rfl,?_⟩
  walk_at "ev"
  by_cases c:b < 0
  ·have e:0 - (Int.gcd t b:Int)=dv t b:=by unfold dv;rw [if_pos c];omega
   rw [decide_eq_true c]
   walk_at "ev"
   rw [e,oDiv_i hd]
   walk_at "ev"
   rw [oDiv_i hd]
   walk_at "ev"
   rw [uW hb0,uP hb0]
   rfl
  ·have e:(Int.gcd t b:Int)=dv t b:=by unfold dv;rw [if_neg c]
   rw [decide_eq_false c]
   walk_at "ev"
   rw [e,oDiv_i hd]
   walk_at "ev"
   rw [oDiv_i hd]
   walk_at "ev"
   rw [uW hb0,uP hb0]
   rfl
 ·have hp:0 < y:=by omega
  refine .inr ⟨?_,[.val (.int t),.val (.int b),.val (.int y),.val (.int (x % y)),.val (.int (x % y))],?_,⟨y,x % y,_,rfl,hy,Int.emod_nonneg _ c,(zBJ hx hp).trans hg⟩,?_⟩
  ·walk_at "ev"
   rw [decide_eq_true hp]
  ·walk_at "ev"
   rw [oMod_i c,fmod_pos _ hp]
   walk_at "ev"
  ·have:=Int.emod_lt_of_pos x hp
   show (x % y).toNat < y.toNat
   omega
theorem uV {p q:Rat} {m n:Nat} (hp:Sz m p) (hq:Sz n q) (h:m+n<=8999):fM [dq p,dq q]=.ok (.v (dq (p+q))):=by
 unfold fM
 walk_at "ev"
 rw [oMul_i (bK hp.1 hq.d (by omega))]
 walk_at "ev"
 rw [oMul_i (bK hq.1 hp.d (by omega))]
 walk_at "ev"
 rw [oMul_i (bK hp.d hq.d (by omega))]
 walk_at "ev"
 rw [lH (Int.mul_ne_zero (dJ p) (dJ q)) (dX hp.d hq.d) h,zDY]
 walk_at "ev"
theorem mO {p q:Rat} {m n:Nat} (hp:Sz m p) (hq:Sz n q) (h:m+n<=8999):eA [dq p,dq q]=.ok (.v (dq (p - q))):=by
 unfold eA
 walk_at "ev"
 rw [oMul_i (bK hp.1 hq.d (by omega))]
 walk_at "ev"
 rw [oMul_i (bK hq.1 hp.d (by omega))]
 walk_at "ev"
 rw [oMul_i (bK hp.d hq.d (by omega))]
 walk_at "ev"
 rw [lH (Int.mul_ne_zero (dJ p) (dJ q)) (dX hp.d hq.d) h,zDA]
 walk_at "ev"
theorem lZ {p q:Rat} {m n:Nat} (hp:Sz m p) (hq:Sz n q) (h:m+n<=8999):dQ [dq p,dq q]=.ok (.v (dq (p * q))):=by
 unfold dQ
 walk_at "ev"
 rw [oMul_i (bK hp.1 hq.1 (by omega))]
 walk_at "ev"
 rw [oMul_i (bK hp.d hq.d (by omega))]
 walk_at "ev"
 rw [lH (Int.mul_ne_zero (dJ p) (dJ q)) (dX hp.d hq.d) h,zEf]
 walk_at "ev"
theorem zDn {p q:Rat} {m n:Nat} (hp:Sz m p) (hq:Sz n q) (h:m+n<=99999):jA [dq p,dq q]=.ok (.v (.bl (decide (p < q)))):=by
 unfold jA
 walk_at "ev"
 rw [oMul_i (bK hp.1 hq.d (by omega))]
 walk_at "ev"
 rw [oMul_i (bK hq.1 hp.d (by omega))]
 walk_at "ev"
 simp only [lt_iff]
theorem yL {ps:List Pt} {n m:Nat} {x:Rat} {e:Pt} (hl:ps.length<=100000) (hs:∀ p∈ps,SzP n p) (hx:Sz m x) (hn:8 * n+2 * m<=8000) (hp:ps.Pairwise asc) (he:ps.getLast?=some e) (h0:∀ p,ps[0]?=some p->p.1<=x) (h1:x<=e.1):
  fH [.tup (ps.map dp),dq x]=.ok (.v (dq (dI ps x))):=by
 have hpos:0 < ps.length:=by cases ps with
  | nil=>cases he
  | cons a r=>exact Nat.succ_pos _
 have hla:ps[ps.length - 1]?=some e:=by rw [<-List.getLast?_eq_getElem?];exact he
 unfold fH
 walk_at "ev"
 rw [sC (by omega) (by omega)]
 walk_at "ev"
 rw [Int.toNat_natCast]
 refine zFh (Q:=fun r=>r.bind fin=.ok (.v (dq (dI ps x)))) (fun i ρ=>∃ a b c d,ρ=[.val (.tup (ps.map dp)),.val (dq x),a,b,c,d]/\∀ j p,j < i->ps[j]?=some p->p.1 < x) ⟨_,_,_,_,rfl,fun j p h=>absurd h (by omega)⟩ ?_ ?_
 ·rintro i d ρ hd ⟨a,b,c,d',rfl,hj⟩
  obtain ⟨hi,rfl⟩:=zDD hd
  have hq:ps[i]?=some ps[i]:=List.getElem?_eq_getElem hi
  have zq:=hs _ (List.mem_of_getElem? hq)
  generalize ps[i]=q at hq zq
  have hq':ps[(0+(i:Int) * 1).toNat]?=some q:=by rw [show (0+(i:Int) * 1).toNat=i by omega];exact hq
  walk_at "ev"
  rw [gG (by omega) hq']
  walk_at "ev"
  by_cases c1:q.1=x
  ·rw [decide_eq_true c1]
   walk_at "ev"
   rw [gG (by omega) hq']
   walk_at "ev"
   refine .inr ⟨_,rfl,?_⟩
   rw [<-c1,fN hp hq]
  ·rw [decide_eq_false c1]
   walk_at "ev"
   by_cases c2:i=0
   ·subst c2
    have h00:=h0 q hq
    rw [decide_eq_false (by omega)]
    walk_at "ev"
    refine .inl ⟨_,rfl,_,_,_,_,rfl,fun j p hj hpj=>?_⟩
    have:j=0:=by omega
    subst this
    rw [hq] at hpj
    cases hpj
    grind
   ·rw [decide_eq_true (by omega)]
    walk_at "ev"
    rw [gG (by omega) hq']
    walk_at "ev"
    rw [zDn hx zq.1 (by omega)]
    walk_at "ev"
    have hp1:ps[i - 1]?=some ps[i - 1]:=List.getElem?_eq_getElem _
    have zp:=hs _ (List.mem_of_getElem? hp1)
    generalize ps[i - 1]=p at hp1 zp
    have lp:=hj _ p (show i - 1 < i by omega) hp1
    have hp1':ps[(0+(i:Int) * 1 - 1).toNat]?=some p:=by rw [show (0+(i:Int) * 1 - 1).toNat=i - 1 by omega];exact hp1
    by_cases c3:x < q.1
    ·have pos:0 < q.1 - p.1:=by grind
     have z2:=zq.1.sub zp.1
     rw [decide_eq_true c3]
     walk_at "ev"
     rw [gG (by omega) hq']
     walk_at "ev"
     rw [gG (by omega) hp1']
     walk_at "ev"
     rw [mO zq.1 zp.1 (by omega)]
     walk_at "ev"
     rw [gG (by omega) hq']
     walk_at "ev"
     rw [gG (by omega) hp1']
     walk_at "ev"
     rw [mO zq.2 zp.2 (by omega)]
     walk_at "ev"
     rw [gG (by omega) hp1']
     walk_at "ev"
     rw [mO hx zp.1 (by omega)]
     walk_at "ev"
     have z1:=hx.sub zp.1
     have z3:=z1.mul (z2.inv pos)
     rw [zLw pos,lZ z1 (z2.inv pos) (by omega)]
     walk_at "ev"
     rw [gG (by omega) hp1']
     walk_at "ev"
     rw [lZ z3 (zq.2.sub zp.2) (by omega)]
     walk_at "ev"
     rw [uV zp.2 (z3.mul (zq.2.sub zp.2)) (by omega)]
     walk_at "ev"
     refine .inr ⟨_,rfl,?_⟩
     rw [kX hp hp1 (by rw [show i - 1+1=i by omega];exact hq) (Rat.le_of_lt lp) (Rat.le_of_lt c3)]
     rfl
    ·rw [decide_eq_false c3]
     walk_at "ev"
     refine .inl ⟨_,rfl,_,_,_,_,rfl,fun j p' hj' hpj=>?_⟩
     rcases Nat.lt_or_eq_of_le (show j<=i by omega) with l | l
     ·exact hj j p' l hpj
     ·subst l
      rw [hq] at hpj
      cases hpj
      grind
 ·rintro ρ' ⟨a,b,c,d,rfl,hj⟩
  rw [zHw] at hj
  have:=hj _ e (show ps.length - 1 < ps.length by omega) hla
  exact absurd h1 (by grind)
theorem zBl {ps:List Pt} {n m:Nat} {x:Rat} {e:Pt} (hl:ps.length<=100000) (hs:∀ p∈ps,SzP n p) (hx:Sz m x) (hn:8 * n+2 * m<=8000) (hk:Ok ps) (he:ps.getLast?=some e) (h0:0<=x) (h1:x<=e.1):
  fH [.tup (ps.map dp),dq x]=.ok (.v (dq (dI ps x))):=
 yL hl hs hx hn hk.2 he (fun p hp=>by rw [<-List.head?_eq_getElem?,hk.1] at hp;cases hp;exact h0) h1
theorem gQ (ns:List Int) (k:Int) (h:0<=k):dB [.lst (ns.map D.int),.int k]=.ok (.v (.int (ns.getD k.toNat 0))):=by
 unfold dB
 walk_at "ev"
 by_cases c:k < (ns.length:Int)
 ·rw [decide_eq_true c]
  walk_at "ev"
  have hk:k.toNat < ns.length:=by omega
  rw [pY h (List.getElem?_eq_getElem hk),List.getD_eq_getElem?_getD,List.getElem?_eq_getElem hk]
  rfl
 ·rw [decide_eq_false c]
  walk_at "ev"
  rw [List.getD_eq_getElem?_getD,List.getElem?_eq_none (by omega)]
  rfl
theorem zGm {ps:List Pt} {e:Pt} {n:Nat} (hl:ps.length<=100000) (hs:∀ p∈ps,SzP n p) (hn:n<=4000) (he:ps.getLast?=some e):oC [.tup (ps.map dp)]=.ok (.v (.tup ((trn ps e).map dp))):=by
 have hpos:0 < ps.length:=by cases ps with
  | nil=>cases he
  | cons a r=>exact Nat.succ_pos _
 have ze:=hs e (List.mem_of_getLast? he)
 unfold oC
 walk_at "ev"
 rw [zED (i:=-1) (k:=1) rfl (by decide) hpos (by rw [<-List.getLast?_eq_getElem?];exact he)]
 walk_at "ev"
 rw [<-List.map_reverse,fO (u:=dp) (g:=fun p=>dp (e.1 - p.1,e.2 - p.2)) (by rw [List.length_reverse];omega) (fun p hp=>by
  have zp:=hs p (List.mem_reverse.mp hp)
  walk_at "ev"
  rw [eG ze.1 zp.1 (by omega)]
  walk_at "ev"
  rw [eG ze.2 zp.2 (by omega)]
  walk_at "ev")]
 walk_at "ev"
 unfold trn
 rw [List.map_map]
 rfl
theorem zFc {w d n:D} {m:Sl}:∀ (ws:List Int) (b:Sl),(∃ x∈ws,¬ (1<=x/\x<=10^6))->dY (gName 4) iK (ws.map D.int) [.val w,.val d,.val n,m,b]=.err "BadWeights"
 | [],_,⟨x,h,_⟩=>by cases h
 | x::r,b,⟨y,hy,hb⟩=>by
  rw [List.map_cons,dY]
  by_cases c1:x < 1
  ·walk_at "ev"
   rw [decide_eq_true c1]
   walk_at "ev"
  ·by_cases c2:10^6 < x
   ·walk_at "ev"
    rw [decide_eq_false c1]
    walk_at "ev"
    rw [oPow_i (by decide)]
    walk_at "ev"
    rw [decide_eq_true c2]
    walk_at "ev"
   ·have ih:=zFc (w:=w) (d:=d) (n:=n) (m:=m) r (.val (.int x)) (by
     rcases List.mem_cons.mp hy with rfl | hy
     ·exact absurd ⟨Int.not_lt.mp c1,Int.not_lt.mp c2⟩ hb
     ·exact ⟨y,hy,hb⟩)
    walk_at "ev"
    rw [decide_eq_false c1]
    walk_at "ev"
    rw [oPow_i (by decide)]
    walk_at "ev"
    rw [decide_eq_false c2]
    walk_at "ev"
    exact ih
theorem zEs {w:Wy} {ws cs:List Int} (hw:w.due ws cs):ws=[]∨ws.length=cs.length:=by
 cases w with
 | even=>exact .inr hw.len
 | lack=>exact .inr hw.len
 | row=>exact .inl hw
 | back=>exact .inl hw
 | part=>exact .inl hw
 | half=>exact .inl hw
theorem zKp {S r:Rat} (h0:0<=S) (r0:0<=r) (r1:r<=1):0<=S * r/\S * r<=S:=by
 refine ⟨Rat.mul_nonneg h0 r0,?_⟩
 have:=Rat.mul_le_mul_of_nonneg_left r1 h0
 grind
theorem zJt {ps:List Pt} {e:Pt} (ok:Ok ps) (hl:ps.length<=1000) (hs:∀ p∈ps,Sz 300 p.1) (he:ps.getLast?=some e) (cell:Int):∃ x,iF [.int cell,.tup (ps.map dp)]=.ok (.v (dq x))/\Sz 310 x/\0<=x/\x<=e.1:=by
 have h0:0 < ps.length:=by cases ps with
  | nil=>cases he
  | cons a r=>exact Nat.succ_pos _
 have me:=List.mem_of_getLast? he
 have ze:=hs e me
 have be:=yG ok he me
 have he1:ps[ps.length - 1]?=some e:=by rw [<-List.getLast?_eq_getElem?];exact he
 have la:oIx (.tup (ps.map dp)) (.int (-1))=.ok (dp e):=zED (i:=-1) (k:=1) rfl (by decide) h0 he1
 unfold iF
 walk_at "ev"
 generalize (cell * 69697+13) % 2147483647=mix
 have b1:0<=mix / 7 % 40:=Int.emod_nonneg _ (by decide)
 have b2:mix / 7 % 40 < 40:=Int.emod_lt_of_pos _ (by decide)
 generalize mix / 7 % 40=bo at b1 b2
 rw [la]
 walk_at "ev"
 have c1:=Int.emod_nonneg (mix / 311) (show 1+bo+1≠0 by omega)
 have c2:=Int.emod_lt_of_pos (mix / 311) (show 0 < 1+bo+1 by omega)
 rw [oMod_i (by omega),fmod_pos _ (by omega)]
 walk_at "ev"
 rw [lH (n:=10) (by omega) (by omega) (by decide)]
 walk_at "ev"
 generalize mix / 311 % (1+bo+1)=t at c1 c2
 have z:=Sz.of (n:=10) (t:=t) (b:=1+bo) (by omega) (by omega) (by omega)
 have r0:0<=Rat.divInt t (1+bo):=zFa c1 (by omega)
 have r1:Rat.divInt t (1+bo)<=1:=by
  rw [Rat.divInt_eq_div]
  have p:(0:Rat) < ((1+bo:Int):Rat):=by exact_mod_cast (show 0 < 1+bo by omega)
  refine qB p ?_
  rw [Rat.div_mul_cancel (by grind),Rat.one_mul]
  exact Rat.intCast_le_intCast.mpr (by omega)
 rw [lZ ze z (by decide)]
 walk_at "ev"
 by_cases c:mix / 5 % 3=1
 ·have d1:=Int.emod_nonneg (mix / 11) (show (ps.length:Int)≠0 by omega)
  have d2:=Int.emod_lt_of_pos (mix / 11) (show 0 < (ps.length:Int) by omega)
  rw [decide_eq_true c]
  walk_at "ev"
  rw [oMod_i (by omega),fmod_pos _ (by omega)]
  walk_at "ev"
  have hq:ps[(mix / 11 % (ps.length:Int)).toNat]?=some ps[(mix / 11 % (ps.length:Int)).toNat]:=List.getElem?_eq_getElem (by omega)
  have mq:=List.mem_of_getElem? hq
  have zq:=hs _ mq
  have bq:=yG ok he mq
  rw [gG d1 hq]
  walk_at "ev"
  exact ⟨_,rfl,zq.mono (by decide),bq.1,bq.2.1⟩
 ·rw [decide_eq_false c]
  walk_at "ev"
  exact ⟨_,rfl,(ze.mul z).mono (by decide),zKp be.1 r0 r1⟩
theorem zEe (cells:List Int) (plan:Int) (hl:cells.length<=100):∃ cs:List Int,gB [.lst (cells.map D.int),.int plan]=.ok (.f (cs.map D.int))/\cs.length=cells.length/\∀ c∈cs,0<=c/\c < 10^30:=by
 unfold gB
 walk_at "ev"
 refine sN (Q:=fun r=>∃ cs:List Int,r.bind fin=.ok (.f (cs.map D.int))/\cs.length=cells.length/\∀ c∈cs,0<=c/\c < 10^30) (k:=zHF lO) (fun i ρ=>∃ (cs:List Int) (a b:Sl),ρ=[.val (.lst (cells.map D.int)),.val (.int plan),.own (cs.map D.int),a,b]/\cs.length=i/\∀ c∈cs,0<=c/\c < 10^30) ⟨[],_,_,rfl,rfl,fun c h=>by cases h⟩ ?_ ?_
 ·rintro i d ρ hd ⟨cs,a,b,rfl,hl',hc⟩
  have hi:i < cells.length:=by have:=(List.getElem?_eq_some_iff.mp hd).1;rwa [List.length_map] at this
  obtain ⟨cell,hcm,rfl⟩:=List.mem_map.mp (List.mem_of_getElem? hd)
  obtain ⟨j,ej,hj⟩:∃ j:Int,ofO (atD [.int 0,.int 0,.int 1,.int 2] (plan % 4))=.ok (.int j)/\(j=0∨j=1∨j=2):=by
   rcases (show plan % 4=0∨plan % 4=1∨plan % 4=2∨plan % 4=3 by omega) with h | h | h | h<;>rw [h]
   ·exact ⟨0,rfl,.inl rfl⟩
   ·exact ⟨0,rfl,.inl rfl⟩
   ·exact ⟨1,rfl,.inr (.inl rfl)⟩
   ·exact ⟨2,rfl,.inr (.inr rfl)⟩
  generalize hm:(cell * 48271+17) % 2147483647=mix
  obtain ⟨c,c0,c1,ce⟩:∃ c:Int,0<=c/\c < 10^30/\ofO (atD [.int (mix / 7 % 13),.int (mix / 97 % 4),.int (cell % 10^30)] j)=.ok (.int c):=by
   have a:=Int.emod_nonneg cell (show (10:Int)^30≠0 by decide)
   have b:=Int.emod_lt_of_pos cell (show (0:Int) < 10^30 by decide)
   rcases hj with rfl | rfl | rfl
   ·exact ⟨mix / 7 % 13,by omega,by omega,rfl⟩
   ·exact ⟨mix / 97 % 4,by omega,by omega,rfl⟩
   ·exact ⟨cell % 10^30,a,b,rfl⟩
  refine ⟨[.val (.lst (cells.map D.int)),.val (.int plan),.own ((cs++[c]).map D.int),.val (.int cell),.val (.int mix)],?_,cs++[c],_,_,rfl,by rw [List.length_append,hl'];rfl,fun z hz=>?_⟩
  ·walk_at "ev"
   rw [hm,zDs,ej]
   walk_at "ev"
   rw [zDs,ce]
   walk_at "ev"
   rw [if_pos (by omega),List.map_append]
   rfl
  ·rcases List.mem_append.mp hz with h | h
   ·exact hc z h
   ·rw [List.mem_singleton.mp h];exact ⟨c0,c1⟩
 ·rintro ρ ⟨cs,a,b,rfl,hl',hc⟩
  rw [List.length_map] at hl'
  exact ⟨cs,rfl,hl',hc⟩
theorem zDp (cells:List Int) (plan:Int) (hl:cells.length<=100):∃ ws:List Int,eO [.lst (cells.map D.int),.int plan]=.ok (.f (ws.map D.int))/\ws.length=cells.length/\∀ c∈ws,1<=c/\c<=10^6:=by
 unfold eO
 walk_at "ev"
 refine sN (Q:=fun r=>∃ cs:List Int,r.bind fin=.ok (.f (cs.map D.int))/\cs.length=cells.length/\∀ c∈cs,1<=c/\c<=10^6) (k:=zHF kL) (fun i ρ=>∃ (cs:List Int) (a b:Sl),ρ=[.val (.lst (cells.map D.int)),.val (.int plan),.own (cs.map D.int),a,b]/\cs.length=i/\∀ c∈cs,1<=c/\c<=10^6) ⟨[],_,_,rfl,rfl,fun c h=>by cases h⟩ ?_ ?_
 ·rintro i d ρ hd ⟨cs,a,b,rfl,hl',hc⟩
  have hi:i < cells.length:=by have:=(List.getElem?_eq_some_iff.mp hd).1;rwa [List.length_map] at this
  obtain ⟨cell,hcm,rfl⟩:=List.mem_map.mp (List.mem_of_getElem? hd)
  generalize hm:(cell * 69697+19) % 2147483647=mix
  obtain ⟨c,c0,c1,ce⟩:∃ c:Int,0<=c/\c < 10^6/\ofO (atD [.int (mix / 7 % 5),.int (mix / 13 % 10^6)] (plan / 4 % 3 / 2))=.ok (.int c):=by
   have a:=Int.emod_nonneg (mix / 13) (show (10:Int)^6≠0 by decide)
   have b:=Int.emod_lt_of_pos (mix / 13) (show (0:Int) < 10^6 by decide)
   rcases (show plan / 4 % 3 / 2=0∨plan / 4 % 3 / 2=1 by omega) with h | h<;>rw [h]
   ·exact ⟨mix / 7 % 5,by omega,by omega,rfl⟩
   ·exact ⟨mix / 13 % 10^6,a,b,rfl⟩
  refine ⟨[.val (.lst (cells.map D.int)),.val (.int plan),.own ((cs++[1+c]).map D.int),.val (.int cell),.val (.int mix)],?_,cs++[1+c],_,_,rfl,by rw [List.length_append,hl'];rfl,fun z hz=>?_⟩
  ·walk_at "ev"
   rw [hm,oPow_i zNi]
   walk_at "ev"
   rw [zDs,ce]
   walk_at "ev"
   rw [if_pos (by omega),List.map_append]
   rfl
  ·rcases List.mem_append.mp hz with h | h
   ·exact hc z h
   ·rw [List.mem_singleton.mp h];exact ⟨by omega,by omega⟩
 ·rintro ρ ⟨cs,a,b,rfl,hl',hc⟩
  rw [List.length_map] at hl'
  exact ⟨cs,rfl,hl',hc⟩
theorem zHk {w:Str} (h:aT.lookup w=none):cI [.str w]=.err "BadWay" := by
 unfold cI
 walk_at "ev"
 rw [h]
 rfl
theorem zGE {cs:List Int} (h:cs=[]∨∃ c∈cs,c < 0):cE [.lst (cs.map D.int)]=.err "BadClaim" := by
 by_cases z:cs=[]
 ·subst z
  rfl
 ·have h':∃ c∈cs,c < 0:=by rcases h with h | h;exact absurd h z;exact h
  have l0:0 < cs.length:=List.length_pos_iff.mpr z
  have lp:∀ (r:List Int) (s:Sl),(∃ c∈r,c < 0)->dY (gName 1) iX (r.map D.int) [.val (.lst (cs.map D.int)),s]=.err "BadClaim" := by
   intro r
   induction r with
   | nil=>rintro s ⟨c,hc,_⟩;cases hc
   | cons x r ih=>
    rintro s ⟨c,hc,c0⟩
    by_cases y:x < 0
    ·rw [List.map_cons,dY]
     walk_at "ev"
     rw [decide_eq_true y]
     walk_at "ev"
    ·rw [List.map_cons,dR (ρ1:=[.val (.lst (cs.map D.int)),.val (.int x)]) (ρ2:=[.val (.lst (cs.map D.int)),.val (.int x)]) rfl (by
      walk_at "ev"
      rw [decide_eq_false y]
      walk_at "ev")]
     refine ih _ ⟨c,?_,c0⟩
     rcases List.mem_cons.mp hc with rfl | hc
     ·exact absurd c0 y
     ·exact hc
  unfold cE
  walk_at "ev"
  rw [decide_eq_false (by omega)]
  walk_at "ev"
  rw [lp cs .un h']
  rfl
theorem zKe (v:Wy):oIn (.str v.s) d_WEIGHTED=.ok (.bl (match v with | .even=>true | .lack=>true | _=>false)):=by cases v<;>rfl
def zMK (v:Wy) (n:Nat):Nat:=match v with
 | .even=>n
 | .lack=>n
 | _=>0
theorem zHa {v:Wy} {ws:List Int} {n:Nat} (hl:ws.length<=1000) (h:ws.length≠zMK v n∨∃ x∈ws,¬ (1<=x/\x<=10^6)):bF [.str v.s,.lst (ws.map D.int),.int (n:Int)]=.err "BadWeights" := by
 have hi:=zKe v
 unfold d_WEIGHTED at hi
 have rest:∀ m:Nat,(ws.length≠m∨∃ x∈ws,¬ (1<=x/\x<=10^6))->(dL [.val (.str v.s),.val (.lst (ws.map D.int)),.val (.int (n:Int)),.val (.int (m:Int)),.un]).bind fin=.err "BadWeights" := fun m hm=>by
  unfold dL
  walk_at "ev"
  by_cases z:ws.length=m
  ·rw [decide_eq_true (by omega)]
   have hb:∃ x∈ws,¬ (1<=x/\x<=10^6):=by rcases hm with hm | hm;exact absurd z hm;exact hm
   walk_at "ev"
   rw [zFc ws .un hb]
   rfl
  ·rw [decide_eq_false (by omega)]
   walk_at "ev"
 unfold bF
 generalize hK:(dL:Sv)=K at rest ⊢
 walk_at "ev"
 rw [hi]
 cases v<;>(walk_at "ev")
 ·exact rest 0 h
 ·exact rest 0 h
 ·exact rest n h
 ·exact rest n h
 ·exact rest 0 h
 ·exact rest 0 h
theorem zBn {a b c:D} {x:Str} (h:cN [a,b,c]=.err x):cO [a,b,c]=.err x:=by
 unfold cO
 walk_at "ev"
 rw [h]
 rfl
theorem zLR {w:Str} {b c:D} (h:aT.lookup w=none):cN [.str w,b,c]=.err "BadWay" := by
 unfold cN
 walk_at "ev"
 rw [zHk h]
 rfl
theorem yD {v:Wy} {b:D} {cs:List Int} (h:cs=[]∨∃ c∈cs,c < 0):cN [.str v.s,b,.lst (cs.map D.int)]=.err "BadClaim" := by
 unfold cN
 walk_at "ev"
 rw [jP (wM v)]
 walk_at "ev"
 rw [zGE h]
 rfl
theorem oV {v:Wy} {ws cs:List Int} (hc:Cl cs) (hl:ws.length<=1000) (h:ws.length≠zMK v cs.length∨∃ x∈ws,¬ (1<=x/\x<=10^6)):cN [.str v.s,.lst (ws.map D.int),.lst (cs.map D.int)]=.err "BadWeights" := by
 unfold cN
 walk_at "ev"
 rw [jP (wM v)]
 walk_at "ev"
 rw [kF (.inl rfl) hc]
 walk_at "ev"
 rw [zHa hl h]
 rfl
theorem qK {a b c:D} (h:cN [a,b,c]=.err "BadWay"):bG [a,b,c]=.ok (.v (.lst [.bl true,.bl true,.bl false,.bl false])):=by
 have e:=zBn h
 unfold bG
 walk_at "ev"
 rw [e]
 walk_at "ev"
 rw [show tbT.contains (Str.ofString "BadWay")=true from rfl]
 walk_at "ev"
 rw [show zCp xZ [Str.ofString "ValueError"] (some (Sl.exc (Str.ofString "BadWay")))=.ok (.bl true) from rfl]
 walk_at "ev"
 rw [show zCp xZ [Str.ofString "BadWay"] (some (Sl.exc (Str.ofString "BadWay")))=.ok (.bl true) from rfl]
 walk_at "ev"
 rw [show zCp xZ [Str.ofString "BadClaim"] (some (Sl.exc (Str.ofString "BadWay")))=.ok (.bl false) from rfl]
 walk_at "ev"
 rw [show zCp xZ [Str.ofString "BadWeights"] (some (Sl.exc (Str.ofString "BadWay")))=.ok (.bl false) from rfl]
 walk_at "ev"
theorem iO {a b c:D} (h:cN [a,b,c]=.err "BadClaim"):bG [a,b,c]=.ok (.v (.lst [.bl true,.bl false,.bl true,.bl false])):=by
 have e:=zBn h
 unfold bG
 walk_at "ev"
 rw [e]
 walk_at "ev"
 rw [show tbT.contains (Str.ofString "BadClaim")=true from rfl]
 walk_at "ev"
 rw [show zCp xZ [Str.ofString "ValueError"] (some (Sl.exc (Str.ofString "BadClaim")))=.ok (.bl true) from rfl]
 walk_at "ev"
 rw [show zCp xZ [Str.ofString "BadWay"] (some (Sl.exc (Str.ofString "BadClaim")))=.ok (.bl false) from rfl]
 walk_at "ev"
 rw [show zCp xZ [Str.ofString "BadClaim"] (some (Sl.exc (Str.ofString "BadClaim")))=.ok (.bl true) from rfl]
 walk_at "ev"
 rw [show zCp xZ [Str.ofString "BadWeights"] (some (Sl.exc (Str.ofString "BadClaim")))=.ok (.bl false) from rfl]
 walk_at "ev"
theorem dW {a b c:D} (h:cN [a,b,c]=.err "BadWeights"):bG [a,b,c]=.ok (.v (.lst [.bl true,.bl false,.bl false,.bl true])):=by
 have e:=zBn h
 unfold bG
 walk_at "ev"
 rw [e]
 walk_at "ev"
 rw [show tbT.contains (Str.ofString "BadWeights")=true from rfl]
 walk_at "ev"
 rw [show zCp xZ [Str.ofString "ValueError"] (some (Sl.exc (Str.ofString "BadWeights")))=.ok (.bl true) from rfl]
 walk_at "ev"
 rw [show zCp xZ [Str.ofString "BadWay"] (some (Sl.exc (Str.ofString "BadWeights")))=.ok (.bl false) from rfl]
 walk_at "ev"
 rw [show zCp xZ [Str.ofString "BadClaim"] (some (Sl.exc (Str.ofString "BadWeights")))=.ok (.bl false) from rfl]
 walk_at "ev"
 rw [show zCp xZ [Str.ofString "BadWeights"] (some (Sl.exc (Str.ofString "BadWeights")))=.ok (.bl true) from rfl]
 walk_at "ev"
theorem zME (k:Int) (h0:0<=k) (h1:k < 6):∃ v:Wy,ofO (atD [.str (Str.ofString "row"),.str (Str.ofString "back"),.str (Str.ofString "even"),.str (Str.ofString "lack"),.str (Str.ofString "part"),.str (Str.ofString "half")] k)=.ok (.str v.s):=by
 rcases (show k=0∨k=1∨k=2∨k=3∨k=4∨k=5 by omega) with h | h | h | h | h | h<;>rw [h]
 ·exact ⟨.row,rfl⟩
 ·exact ⟨.back,rfl⟩
 ·exact ⟨.even,rfl⟩
 ·exact ⟨.lack,rfl⟩
 ·exact ⟨.part,rfl⟩
 ·exact ⟨.half,rfl⟩
theorem vE {v:Wy} {ws cs:List Int} {cell:Int} (hw:v.due ws cs) (hc:Cl cs):cT [.str v.s,.lst (ws.map D.int),.lst (cs.map D.int),.int cell]=.ok (.v (.bl true)):=by
 have hi:=hc.hi
 have lo:=hc.lo
 obtain ⟨odd,eo,ho⟩:∃ o:Int,ofO (atD [.int 0,.int (10^6+1),.int (-1)] (cell % 3))=.ok (.int o)/\¬ (1<=o/\o<=10^6):=by
  rcases (show cell % 3=0∨cell % 3=1∨cell % 3=2 by omega) with h | h | h<;>rw [h]
  ·exact ⟨0,rfl,by decide⟩
  ·exact ⟨10^6+1,rfl,by decide⟩
  ·exact ⟨-1,rfl,by decide⟩
 obtain ⟨bw,ebw,hbw⟩:∃ s:Str,ofO (atD [.str (Str.ofString "rows"),.str (Str.ofString ""),.str (Str.ofString "Even"),.str (Str.ofString "boat")] (cell % 4))=.ok (.str s)/\aT.lookup s=none:=by
  rcases (show cell % 4=0∨cell % 4=1∨cell % 4=2∨cell % 4=3 by omega) with h | h | h | h<;>rw [h]
  ·exact ⟨_,rfl,by decide⟩
  ·exact ⟨_,rfl,by decide⟩
  ·exact ⟨_,rfl,by decide⟩
  ·exact ⟨_,rfl,by decide⟩
 obtain ⟨at',ea⟩:∃ a:Nat,cell / 3 % (cs.length:Int)=(a:Int):=Int.eq_ofNat_of_zero_le (Int.emod_nonneg _ (by omega))
 have ha:at' < cs.length:=by have:=Int.emod_lt_of_pos (cell / 3) (show (0:Int) < (cs.length:Int) by omega);omega
 have b0:=Int.emod_nonneg (cell / 7) (show (10:Int)^9≠0 by decide)
 have lw:ws.length<=12:=by rcases zEs hw with rfl | h;exact Nat.zero_le _;omega
 have dl:ws.length=zMK v cs.length:=by
  cases v with
  | even=>exact hw.len
  | lack=>exact hw.len
  | row=>rw [show ws=[] from hw];rfl
  | back=>rw [show ws=[] from hw];rfl
  | part=>rw [show ws=[] from hw];rfl
  | half=>rw [show ws=[] from hw];rfl
 unfold cT
 walk_at "ev"
 rw [oPow_i zNi]
 walk_at "ev"
 rw [zDs,eo]
 walk_at "ev"
 rw [oMod_i (by omega),fmod_pos _ (by omega),ea]
 walk_at "ev"
 rw [qO (by omega),if_pos (by rw [List.length_take,List.length_map];omega)]
 walk_at "ev"
 rw [oR (by omega)]
 rw [if_pos (by simp only [List.length_append,List.length_take,List.length_drop,List.length_map,List.length_cons,List.length_nil];omega)]
 obtain ⟨bad,hbad⟩:∃ bad:List Int,bad=cs.take at'++[-1 - cell / 7 % 10^9]++cs.drop (at'+1):=⟨_,rfl⟩
 have eb:List.take (at':Int).toNat (cs.map D.int)++[D.int (-1 - cell / 7 % 10^9)]++List.drop ((at':Int)+1).toNat (cs.map D.int)=bad.map D.int:=by
  rw [hbad,List.map_append,List.map_append,List.map_take,List.map_drop,Int.toNat_natCast,show ((at':Int)+1).toNat=at'+1 by omega]
  rfl
 rw [eb]
 have bn:∃ c∈bad,c < 0:=⟨-1 - cell / 7 % 10^9,by rw [hbad];simp,by omega⟩
 have e4:∀ x y z:Bool,dep (.lst [.bl true,.bl x,.bl y,.bl z])<=50:=fun x y z=>by simp [dep,depS]
 have wa:∀ o:Int,ws.map D.int++[D.int o]=(ws++[o]).map D.int:=fun o=>by rw [List.map_append];rfl
 have r1:=qK (zLR (b:=.lst ((ws++[odd]).map D.int)) (c:=.lst (bad.map D.int)) hbw)
 have r2:=iO (yD (v:=v) (b:=.lst ((ws++[odd]).map D.int)) (cs:=bad) (.inr bn))
 have r3:=iO (yD (v:=v) (b:=.lst ((ws++[odd]).map D.int)) (cs:=[]) (.inl rfl))
 have r4:=fun o:Int=>dW (oV (v:=v) (ws:=ws++[o]) hc (by rw [List.length_append];simp;omega) (.inl (by rw [List.length_append,dl];simp)))
 have tail:(eE [.val (.str v.s),.val (.lst (ws.map D.int)),.val (.lst (cs.map D.int)),.val (.int cell),.val (.int odd),.val (.int (at':Int)),.val (.lst (bad.map D.int)),.val (.lst [])]).bind fin=.ok (.v (.bl true)):=by
  walk_at "ev"
  rw [if_pos (by omega),wa]
  walk_at "ev"
  rw [r4]
  walk_at "ev"
  rw [pB (e4 _ _ _)]
  walk_at "ev"
  rcases zEs hw with rfl | hwl
  ·rw [show oEq (.lst (([]:List Int).map D.int)) (.lst [])=.ok (.bl true) from rfl]
   walk_at "ev"
  ·have ne:ws≠[]:=by rintro rfl;simp at hwl;omega
   rw [show oEq (.lst (ws.map D.int)) (.lst [])=.ok (.bl false) by
    unfold oEq
    rw [if_pos (Nat.le_trans (zCu ws) (by decide))]
    obtain ⟨a,r,rfl⟩:=List.exists_cons_of_ne_nil ne
    rfl]
   walk_at "ev"
   have r5:=dW (oV (v:=v) (ws:=ws.drop 1) hc (by rw [List.length_drop];omega) (.inl (by rw [List.length_drop,<-dl];omega)))
   obtain ⟨w6,h6⟩:∃ w6:List Int,w6=ws.take at'++[odd]++ws.drop (at'+1):=⟨_,rfl⟩
   have r6:=dW (oV (v:=v) (ws:=w6) hc (by rw [h6];simp only [List.length_append,List.length_take,List.length_drop,List.length_cons,List.length_nil];omega) (.inr ⟨odd,by rw [h6];simp,ho⟩))
   have ew:List.take (at':Int).toNat (ws.map D.int)++[D.int odd]++List.drop ((at':Int)+1).toNat (ws.map D.int)=w6.map D.int:=by
    rw [h6,List.map_append,List.map_append,List.map_take,List.map_drop,Int.toNat_natCast,show ((at':Int)+1).toNat=at'+1 by omega]
    rfl
   rw [oR (by decide),<-List.map_drop,show ((1:Int).toNat)=1 from rfl,r5]
   walk_at "ev"
   rw [pB (e4 _ _ _)]
   walk_at "ev"
   rw [qO (by omega),if_pos (by rw [List.length_take,List.length_map];omega)]
   walk_at "ev"
   rw [oR (by omega)]
   rw [if_pos (by simp only [List.length_append,List.length_take,List.length_drop,List.length_map,List.length_cons,List.length_nil];omega),ew]
   walk_at "ev"
   rw [r6]
   walk_at "ev"
   rw [zIQ (e4 _ _ _)]
   walk_at "ev"
 unfold iD iE
 generalize hK:(eE:Sv)=K at tail ⊢
 walk_at "ev"
 rw [zDs,ebw]
 walk_at "ev"
 rw [if_pos (by omega),wa]
 walk_at "ev"
 rw [r1]
 walk_at "ev"
 rw [pB (e4 _ _ _)]
 walk_at "ev"
 rw [dR (ρ1:=[.val (.str v.s),.val (.lst (ws.map D.int)),.val (.lst (cs.map D.int)),.val (.int cell),.val (.int odd),.val (.int (at':Int)),.val (.lst (bad.map D.int)),.val (.lst (bad.map D.int))]) (ρ2:=[.val (.str v.s),.val (.lst (ws.map D.int)),.val (.lst (cs.map D.int)),.val (.int cell),.val (.int odd),.val (.int (at':Int)),.val (.lst (bad.map D.int)),.val (.lst (bad.map D.int))]) rfl (by
  walk_at "ev"
  rw [if_pos (by omega),wa]
  walk_at "ev"
  rw [r2]
  walk_at "ev"
  rw [pB (e4 _ _ _)]
  walk_at "ev")]
 rw [dR (ρ1:=[.val (.str v.s),.val (.lst (ws.map D.int)),.val (.lst (cs.map D.int)),.val (.int cell),.val (.int odd),.val (.int (at':Int)),.val (.lst (bad.map D.int)),.val (.lst [])]) (ρ2:=[.val (.str v.s),.val (.lst (ws.map D.int)),.val (.lst (cs.map D.int)),.val (.int cell),.val (.int odd),.val (.int (at':Int)),.val (.lst (bad.map D.int)),.val (.lst [])]) rfl (by
  walk_at "ev"
  rw [if_pos (by omega),wa]
  walk_at "ev"
  rw [List.map_nil] at r3
  rw [r3]
  walk_at "ev"
  rw [pB (e4 _ _ _)]
  walk_at "ev")]
 exact tail
theorem zES (L:List (List Pt)):dep (.lst (L.map fun ps=>D.tup (ps.map dp)))<=50:=by
 have:depS (L.map fun ps=>D.tup (ps.map dp))<=4:=zBe fun d hd=>by
  obtain ⟨ps,_,rfl⟩:=List.mem_map.mp hd
  rw [dep]
  have:depS (ps.map dp)<=3:=zBe fun e he=>by
   obtain ⟨p,_,rfl⟩:=List.mem_map.mp he
   exact Nat.le_trans (Nat.le_of_eq (dep_dp p)) (by decide)
  omega
 rw [dep]
 omega
theorem zHN (f:Nat->Rat) (k:Nat):((List.range (k+1)).map f).sum=((List.range k).map f).sum+f k:=by
 rw [List.range_succ,List.map_append]
 have:∀ (l m:List Rat),(l++m).sum=l.sum+m.sum:=by
  intro l m
  induction l with
  | nil=>rw [List.nil_append,List.sum_nil,Rat.zero_add]
  | cons a l ih=>rw [List.cons_append,List.sum_cons,List.sum_cons,ih];grind
 rw [this]
 show _+(f k+0)=_
 rw [Rat.add_zero]
theorem zGr {ns:List Int} {w:Wy} {ws cs:List Int} {plan:Int} {s5:Sl} (hl:ns.length<=63) (hw:w.due ws cs) (hc:Cl cs):(xP [.val (.lst (ns.map D.int)),.val (.int plan),.val (.lst (cs.map D.int)),.val (.str w.s),.val (.lst (ws.map D.int)),s5,.un,.un,.un,.un,.un,.un]).bind fin=.ok (.v (.bl true)):=by
 have hi:=hc.hi
 have lo:=hc.lo
 have sm:=hc.sum
 obtain ⟨J,eJ,js,lJ,zJ⟩:=rR (w:=w) (wd:=.lst (ws.map D.int)) (cd:=.lst (cs.map D.int)) (.inl rfl) (.inl rfl) hw hc
 obtain ⟨J',eJ',js',lJ',zJ'⟩:=rR (w:=w.con) (wd:=.lst (ws.map D.int)) (cd:=.lst (cs.map D.int)) (.inl rfl) (.inl rfl) (zBD hw) hc
 have LL:∀ i,i < cs.length->(wln w ws cs J i).length<=30:=fun i hi'=>by
  obtain ⟨ok,la⟩:=zCL hw hc js hi'
  have h1:=(uY ok.2).length_le
  have h2:(jpt w ws cs J i).length=J.length:=by unfold jpt;rw [List.length_map]
  show (lP (jpt w ws cs J i)).length<=30
  omega
 have ZZ:∀ i,i < cs.length->∀ p∈wln w ws cs J i,SzP 670 p/\Sz 300 p.1:=fun i hi' p hp=>by
  obtain ⟨_,_,m,_⟩:=uO hw hc js hi'
  obtain ⟨m1,m2⟩:=m p hp
  obtain ⟨z1,z2⟩:=zJ p.1 m1
  exact ⟨⟨z1.mono (by decide),by rw [m2];exact z2 i hi'⟩,z1⟩
 have ixl:∀ i:Nat,i < cs.length->oIx (.lst ((List.range cs.length).map fun i=>D.tup ((wln w ws cs J i).map dp))) (.int (i:Int))=.ok (.tup ((wln w ws cs J i).map dp)):=fun i hi'=>pY (Int.natCast_nonneg i) (show (List.range cs.length)[i]?=some i from List.getElem?_range hi')
 unfold xP zCI
 generalize hK:(wV:Sv)=K
 walk_at "ev"
 rw [eJ]
 walk_at "ev"
 rw [qO (by decide),<-List.map_take]
 walk_at "ev"
 rw [if_pos (by rw [List.length_take];omega),show D.int 0::List.map D.int (List.take 12 ns)=(0::List.take 12 ns).map D.int from rfl]
 generalize (0::List.take 12 ns)=ms
 walk_at "ev"
 subst hK
 refine sN (Q:=fun r=>r.bind fin=.ok (.v (.bl true))) (k:=zHF wV) (fun i ρ=>∃ (a6 a7 a8 a9 a10 a11:Sl),ρ=[.val (.lst (ns.map D.int)),.val (.int plan),.val (.lst (cs.map D.int)),.val (.str w.s),.val (.lst (ws.map D.int)),.val (.lst ((List.range cs.length).map fun i=>D.tup ((wln w ws cs J i).map dp))),a6,a7,a8,a9,a10,a11]) ⟨_,_,_,_,_,_,rfl⟩ ?_ ?_
 ·rintro i d ρ hd ⟨a6,a7,a8,a9,a10,a11,rfl⟩
  obtain ⟨cell,hcm,rfl⟩:=List.mem_map.mp (List.mem_of_getElem? hd)
  obtain ⟨k,ek⟩:∃ k:Nat,cell / 4 % (cs.length:Int)=(k:Int):=Int.eq_ofNat_of_zero_le (Int.emod_nonneg _ (by omega))
  have hk:k < cs.length:=by have:=Int.emod_lt_of_pos (cell / 4) (show (0:Int) < (cs.length:Int) by omega);omega
  obtain ⟨ln,la,_,_⟩:=uO hw hc js hk
  obtain ⟨x,ex,zx,x0,x1⟩:=zJt ln.1 (by have:=LL k hk;omega) (fun p hp=>(ZZ k hk p hp).2) la cell
  have x1':x<=(cs.sum:Rat):=x1
  have ha:Haul 310 x cs.sum:=⟨x0,x1',zx⟩
  obtain ⟨f,ef,af⟩:=zJj (wd:=.lst (ws.map D.int)) (cd:=.lst (cs.map D.int)) (.inl rfl) (.inl rfl) (by decide) hw hc ha
  have df:=zIP hw hc ha af
  have fF:∀ j,j < cs.length->f j=FF w ws cs x j:=fun j hj=>zFQ hw hc x0 x1' af hj
  have ixf:∀ j:Nat,j < cs.length->oIx (.lst (((List.range cs.length).map f).map dq)) (.int (j:Int))=.ok (dq (f j)):=fun j hj=>by
   rw [List.map_map]
   exact pY (Int.natCast_nonneg j) (show (List.range cs.length)[j]?=some j from List.getElem?_range hj)
  have zf:∀ j,j < cs.length->Sz 680 (f j):=fun j hj=>(df.bd j hj).2.2
  have lp:∃ b9 b10,dY (gName 10) wP (rng 0 cs.length 1) [.val (.lst (ns.map D.int)),.val (.int plan),.val (.lst (cs.map D.int)),.val (.str w.s),.val (.lst (ws.map D.int)),.val (.lst ((List.range cs.length).map fun i=>D.tup ((wln w ws cs J i).map dp))),.val (.int cell),.val (dq x),.val (.lst (((List.range cs.length).map f).map dq)),.val (dq 0),a10,a11]=.ok (.nx [.val (.lst (ns.map D.int)),.val (.int plan),.val (.lst (cs.map D.int)),.val (.str w.s),.val (.lst (ws.map D.int)),.val (.lst ((List.range cs.length).map fun i=>D.tup ((wln w ws cs J i).map dp))),.val (.int cell),.val (dq x),.val (.lst (((List.range cs.length).map f).map dq)),.val (dq ((List.range cs.length).map f).sum),b10,a11])/\b9=Sl.un:=by
   have key:=zBW (g:=gName 10) (b:=wP) (fun k ρ=>∃ b10,ρ=[.val (.lst (ns.map D.int)),.val (.int plan),.val (.lst (cs.map D.int)),.val (.str w.s),.val (.lst (ws.map D.int)),.val (.lst ((List.range cs.length).map fun i=>D.tup ((wln w ws cs J i).map dp))),.val (.int cell),.val (dq x),.val (.lst (((List.range cs.length).map f).map dq)),.val (dq ((List.range k).map f).sum),b10,a11]/\Sz (681 * k+1) ((List.range k).map f).sum) (rng 0 cs.length 1) 0 [.val (.lst (ns.map D.int)),.val (.int plan),.val (.lst (cs.map D.int)),.val (.str w.s),.val (.lst (ws.map D.int)),.val (.lst ((List.range cs.length).map fun i=>D.tup ((wln w ws cs J i).map dp))),.val (.int cell),.val (dq x),.val (.lst (((List.range cs.length).map f).map dq)),.val (dq 0),a10,a11] ⟨_,rfl,by show Sz 1 (0:Rat);exact ⟨by decide,by decide⟩⟩ (by
    rintro j d ρ hd ⟨b10,rfl,zs⟩
    rw [Nat.zero_add] at zs ⊢
    obtain ⟨hj0,rfl⟩:=zDD hd
    have hj:j < cs.length:=hj0
    rw [show (0:Int)+(j:Int) * 1=(j:Int) by omega]
    obtain ⟨lnj,laj,_,vj⟩:=uO hw hc js hj
    have fv:=zBl (by have:=LL j hj;omega) (fun p hp=>(ZZ j hj p hp).1) zx (by decide) lnj.1 laj x0 x1'
    rw [vj x x0 x1',<-fF j hj] at fv
    refine ⟨_,[.val (.lst (ns.map D.int)),.val (.int plan),.val (.lst (cs.map D.int)),.val (.str w.s),.val (.lst (ws.map D.int)),.val (.lst ((List.range cs.length).map fun i=>D.tup ((wln w ws cs J i).map dp))),.val (.int cell),.val (dq x),.val (.lst (((List.range cs.length).map f).map dq)),.val (dq ((List.range (j+1)).map f).sum),.val (.int (j:Int)),a11],rfl,.inl ?_,_,rfl,by rw [zHN];exact (zs.add (zf j hj)).mono (by omega)⟩
    walk_at "ev"
    rw [ixf j hj]
    walk_at "ev"
    rw [uV zs (zf j hj) (by omega),<-zHN]
    walk_at "ev"
    rw [ixl j hj]
    walk_at "ev"
    rw [fv]
    walk_at "ev"
    rw [ixf j hj]
    walk_at "ev")
   obtain ⟨ρ',h1,b10,rfl,_⟩:=key
   rw [Nat.zero_add,zHw] at h1
   exact ⟨_,b10,h1,rfl⟩
  obtain ⟨_,b10,lp,_⟩:=lp
  refine ⟨[.val (.lst (ns.map D.int)),.val (.int plan),.val (.lst (cs.map D.int)),.val (.str w.s),.val (.lst (ws.map D.int)),.val (.lst ((List.range cs.length).map fun i=>D.tup ((wln w ws cs J i).map dp))),.val (.int cell),.val (dq x),.val (.lst (((List.range cs.length).map f).map dq)),.val (dq ((List.range cs.length).map f).sum),b10,a11],?_,_,_,_,_,_,_,rfl⟩
  unfold zBI zBM zCt zCf
  walk_at "ev"
  rw [List.length_range,oMod_i (by omega),fmod_pos _ (by omega),ek]
  walk_at "ev"
  rw [ixl k hk]
  walk_at "ev"
  rw [ex]
  walk_at "ev"
  rw [ef]
  walk_at "ev"
  rw [sC (by omega) (by omega),Int.toNat_natCast]
  walk_at "ev"
  rw [show D.tup [D.int 0,D.int 1]=dq 0 from rfl,lp]
  walk_at "ev"
  rw [df.sum]
  walk_at "ev"
 ·rintro ρ ⟨a6,a7,a8,a9,a10,a11,rfl⟩
  have fc:=zAk w
  have tl:∀ i,i < cs.length->wln w.con ws cs J' i=trn (wln w ws cs J i) ((cs.sum:Rat),cR cs i):=fun i hi'=>zID hw hc js js' hi'
  have ar:=vE (cell:=ns.getD 1 0) hw hc
  walk_at "ev"
  rw [fc]
  walk_at "ev"
  rw [eJ']
  walk_at "ev"
  rw [fO (u:=fun i=>D.tup ((wln w ws cs J i).map dp)) (g:=fun i=>D.tup ((wln w.con ws cs J' i).map dp)) (by rw [List.length_range];omega) (fun i hi'=>by
   have hii:=List.mem_range.mp hi'
   obtain ⟨_,la,_,_⟩:=uO hw hc js hii
   walk_at "ev"
   rw [zGm (by have:=LL i hii;omega) (fun p hp=>(ZZ i hii p hp).1) (by decide) la,<-tl i hii]
   walk_at "ev")]
  walk_at "ev"
  rw [pB (by
   have:=zES ((List.range cs.length).map fun i=>wln w.con ws cs J' i)
   rw [List.map_map] at this
   exact this)]
  walk_at "ev"
  rw [gQ ns 1 (by decide)]
  walk_at "ev"
  rw [ar]
  walk_at "ev"
theorem law_true:∀ ns:List Int,ns.length<=63->zJe [.lst (ns.map D.int)]=.ok (.v (.bl true)):=by
 intro ns hl
 have go:=fun (w:Wy) (ws cs:List Int) (plan:Int) hw hc=>@zGr ns w ws cs plan .un hl hw hc
 generalize hp:ns.getD 0 0=plan
 obtain ⟨cs0,e0,l0,h0⟩:=zEe ((ns.drop 1).take 6) plan (by rw [List.length_take];omega)
 have l6:cs0.length<=6:=by rw [l0,List.length_take];omega
 obtain ⟨v,ev⟩:=zME (plan / 12 % 6) (Int.emod_nonneg _ (by decide)) (Int.emod_lt_of_pos _ (by decide))
 have p5:0<=plan % 5/\plan % 5 < 5:=⟨Int.emod_nonneg _ (by decide),Int.emod_lt_of_pos _ (by decide)⟩
 have tail:∀ cs:List Int,Cl cs->(vQ [.val (.lst (ns.map D.int)),.val (.int plan),.val (.lst (cs.map D.int)),.un,.un,.un,.un,.un,.un,.un,.un,.un]).bind fin=.ok (.v (.bl true)):=fun cs hc=>by
  have hi:=hc.hi
  obtain ⟨ws,ew,lw,hws⟩:=zDp ((List.range cs.length).map fun j=>ns.getD (7+j) 0) plan (by rw [List.length_map,List.length_range];omega)
  rw [List.length_map,List.length_range] at lw
  unfold vQ zDz zDZ
  have g1:=go v ws cs plan
  have g2:=go v [] cs plan
  generalize hK:(xP:Sv)=K at g1 g2 ⊢
  walk_at "ev"
  rw [zDs,ev]
  walk_at "ev"
  have wi:=zKe v
  unfold d_WEIGHTED at wi
  rw [wi]
  cases v with
  | row=>
   walk_at "ev"
   exact g2 rfl hc
  | back=>
   walk_at "ev"
   exact g2 rfl hc
  | even=>
   walk_at "ev"
   rw [sC (by omega) (by omega)]
   walk_at "ev"
   rw [show rng 0 ((cs.length:Int)).toNat 1=(List.range cs.length).map fun j:Nat=>D.int (j:Int) by unfold rng;rw [Int.toNat_natCast];exact List.map_congr_left fun j _=>by rw [show (0:Int)+(j:Int) * 1=(j:Int) by omega]]
   rw [fO (u:=fun j:Nat=>D.int (j:Int)) (g:=fun j=>D.int (ns.getD (7+j) 0)) (by rw [List.length_range];omega) (fun j hj=>by
    walk_at "ev"
    rw [gQ ns _ (by omega),show (7+(j:Int)).toNat=7+j by omega]
    walk_at "ev")]
   walk_at "ev"
   rw [show ((List.range cs.length).map fun j=>D.int (ns.getD (7+j) 0))=((List.range cs.length).map fun j=>ns.getD (7+j) 0).map D.int by rw [List.map_map];rfl,ew]
   walk_at "ev"
   exact g1 (show Wt ws cs from ⟨lw,fun c h=>(hws c h).1,fun c h=>(hws c h).2⟩) hc
  | lack=>
   walk_at "ev"
   rw [sC (by omega) (by omega)]
   walk_at "ev"
   rw [show rng 0 ((cs.length:Int)).toNat 1=(List.range cs.length).map fun j:Nat=>D.int (j:Int) by unfold rng;rw [Int.toNat_natCast];exact List.map_congr_left fun j _=>by rw [show (0:Int)+(j:Int) * 1=(j:Int) by omega]]
   rw [fO (u:=fun j:Nat=>D.int (j:Int)) (g:=fun j=>D.int (ns.getD (7+j) 0)) (by rw [List.length_range];omega) (fun j hj=>by
    walk_at "ev"
    rw [gQ ns _ (by omega),show (7+(j:Int)).toNat=7+j by omega]
    walk_at "ev")]
   walk_at "ev"
   rw [show ((List.range cs.length).map fun j=>D.int (ns.getD (7+j) 0))=((List.range cs.length).map fun j=>ns.getD (7+j) 0).map D.int by rw [List.map_map];rfl,ew]
   walk_at "ev"
   exact g1 (show Wt ws cs from ⟨lw,fun c h=>(hws c h).1,fun c h=>(hws c h).2⟩) hc
  | part=>
   walk_at "ev"
   exact g2 rfl hc
  | half=>
   walk_at "ev"
   exact g2 rfl hc
 unfold zJe zEK zEB
 generalize hK:(vQ:Sv)=K at tail ⊢
 walk_at "ev"
 rw [gQ ns 0 (by decide)]
 walk_at "ev"
 rw [hp,zER (by decide) (by decide),<-List.map_drop,<-List.map_take]
 rw [show ((1:Int).toNat)=1 from rfl,show ((7:Int).toNat - 1)=6 from rfl,e0]
 walk_at "ev"
 by_cases z:cs0=[]
 ·subst z
  rw [show oEq (.lst (([]:List Int).map D.int)) (.lst [])=.ok (.bl true) from rfl]
  walk_at "ev"
  exact tail [plan % 5] ⟨fun c h=>by rw [List.mem_singleton.mp h];exact p5.1,fun c h=>by rw [List.mem_singleton.mp h];omega,Nat.le_refl 1,by show 1<=12;decide⟩
 ·rw [show oEq (.lst (cs0.map D.int)) (.lst [])=.ok (.bl false) by
   unfold oEq
   rw [if_pos (Nat.le_trans (zCu cs0) (by decide))]
   obtain ⟨a,r,rfl⟩:=List.exists_cons_of_ne_nil z
   rfl]
  walk_at "ev"
  exact tail cs0 ⟨fun c h=>(h0 c h).1,fun c h=>(h0 c h).2,List.length_pos_iff.mpr z,by omega⟩
end Lw
namespace Lw
open PySem PySem.Spec PyProof.Rows L2 L3
def top (i:Nat):Stmt:=PySem.Challenge.pw_catchhall_k22_whole_lines_tell_all_deali.main.body.getD i (.Pass ⟨0,0,0,0⟩)
abbrev gJ:Stmt:=top 10
theorem cD:FnScope ["one", "two", "rest"] ["one", "two"] (aK gJ):=⟨rfl,rfl,rfl,by decide +kernel,rfl,by decide +kernel,by decide +kernel⟩
abbrev zFG:Stmt:=top 11
theorem zAE:FnScope ["top", "bottom", "divisor"] ["top", "bottom"] (aK zFG):=⟨rfl,rfl,rfl,by decide +kernel,rfl,by decide +kernel,by decide +kernel⟩
abbrev zBo:Stmt:=top 12
theorem zGA:FnScope ["number"] ["number"] (aK zBo):=⟨rfl,rfl,rfl,by decide +kernel,rfl,by decide +kernel,by decide +kernel⟩
abbrev zFe:Stmt:=top 13
theorem zJx:FnScope ["one", "two"] ["one", "two"] (aK zFe):=⟨rfl,rfl,rfl,by decide +kernel,rfl,by decide +kernel,by decide +kernel⟩
abbrev zBc:Stmt:=top 14
theorem zGF:FnScope ["one", "two"] ["one", "two"] (aK zBc):=⟨rfl,rfl,rfl,by decide +kernel,rfl,by decide +kernel,by decide +kernel⟩
abbrev zAW:Stmt:=top 15
theorem zHf:FnScope ["one", "two"] ["one", "two"] (aK zAW):=⟨rfl,rfl,rfl,by decide +kernel,rfl,by decide +kernel,by decide +kernel⟩
abbrev zEx:Stmt:=top 16
theorem zIh:FnScope ["one", "two"] ["one", "two"] (aK zEx):=⟨rfl,rfl,rfl,by decide +kernel,rfl,by decide +kernel,by decide +kernel⟩
abbrev zDC:Stmt:=top 17
theorem zJb:FnScope ["one", "two"] ["one", "two"] (aK zDC):=⟨rfl,rfl,rfl,by decide +kernel,rfl,by decide +kernel,by decide +kernel⟩
abbrev xE:Stmt:=top 18
theorem zFB:FnScope ["one", "two"] ["one", "two"] (aK xE):=⟨rfl,rfl,rfl,by decide +kernel,rfl,by decide +kernel,by decide +kernel⟩
abbrev kI:Stmt:=top 19
theorem xT:FnScope ["amount", "most"] ["amount", "most"] (aK kI):=⟨rfl,rfl,rfl,by decide +kernel,rfl,by decide +kernel,by decide +kernel⟩
abbrev gH:Stmt:=top 20
theorem pQ:FnScope ["amount", "most"] ["amount", "most"] (aK gH):=⟨rfl,rfl,rfl,by decide +kernel,rfl,by decide +kernel,by decide +kernel⟩
abbrev gN:Stmt:=top 21
theorem nK:FnScope ["some", "bottom", "each"] ["some"] (aK gN):=⟨rfl,rfl,rfl,by decide +kernel,rfl,by decide +kernel,by decide +kernel⟩
abbrev sB:Stmt:=top 25
theorem pA:FnScope ["points", "kept", "point"] ["points"] (aK sB):=⟨rfl,rfl,rfl,by decide +kernel,rfl,by decide +kernel,by decide +kernel⟩
abbrev kR:Stmt:=top 26
theorem gW:FnScope ["points", "spot", "ahead", "point"] ["points"] (aK kR):=⟨rfl,rfl,rfl,by decide +kernel,rfl,by decide +kernel,by decide +kernel⟩
abbrev kG:Stmt:=top 27
theorem eR:FnScope ["ahead", "point", "later", "rise", "later_rise", "run", "later_run"] ["ahead", "point", "later"] (aK kG):=⟨rfl,rfl,rfl,by decide +kernel,rfl,by decide +kernel,by decide +kernel⟩
abbrev qR:Stmt:=top 28
theorem rK:FnScope ["line", "end"] ["line"] (aK qR):=⟨rfl,rfl,rfl,by decide +kernel,rfl,by decide +kernel,by decide +kernel⟩
abbrev xO:Stmt:=top 33
theorem zEC:FnScope ["way", "weights", "claims"] ["way", "weights", "claims"] (aK xO):=⟨rfl,rfl,rfl,by decide +kernel,rfl,by decide +kernel,by decide +kernel⟩
abbrev kT:Stmt:=top 34
theorem wA:FnScope ["way"] ["way"] (aK kT):=⟨rfl,rfl,rfl,by decide +kernel,rfl,by decide +kernel,by decide +kernel⟩
abbrev iB:Stmt:=top 35
theorem jV:FnScope ["claims", "claim"] ["claims"] (aK iB):=⟨rfl,rfl,rfl,by decide +kernel,rfl,by decide +kernel,by decide +kernel⟩
abbrev gI:Stmt:=top 36
theorem fL:FnScope ["way", "weights", "many", "due", "weight"] ["way", "weights", "many"] (aK gI):=⟨rfl,rfl,rfl,by decide +kernel,rfl,by decide +kernel,by decide +kernel⟩
abbrev iS:Stmt:=top 37
theorem rV:FnScope ["way"] ["way"] (aK iS):=⟨rfl,rfl,rfl,by decide +kernel,rfl,by decide +kernel,by decide +kernel⟩
abbrev zBf:Stmt:=top 38
theorem zGY:FnScope ["way", "weights", "claims", "catch"] ["way", "weights", "claims", "catch"] (aK zBf):=⟨rfl,rfl,rfl,by decide +kernel,rfl,by decide +kernel,by decide +kernel⟩
abbrev dO:Stmt:=top 39
theorem dZ:FnScope ["way", "weights", "claims", "catch", "most", "lacking"] ["way", "weights", "claims", "catch"] (aK dO):=⟨rfl,rfl,rfl,by decide +kernel,rfl,by decide +kernel,by decide +kernel⟩
abbrev mV:Stmt:=top 40
theorem eN:FnScope ["claims", "catch", "left", "amounts", "claim", "amount"] ["claims", "catch"] (aK mV):=⟨rfl,rfl,rfl,by decide +kernel,rfl,by decide +kernel,by decide +kernel⟩
abbrev kH:Stmt:=top 41
theorem cM:FnScope ["weights", "claims", "catch", "left", "weight", "amounts", "spot", "by_weight"] ["weights", "claims", "catch"] (aK kH):=⟨rfl,rfl,rfl,by decide +kernel,rfl,by decide +kernel,by decide +kernel⟩
abbrev jO:Stmt:=top 42
theorem zAl:FnScope ["weights", "claims"] ["weights", "claims"] (aK jO):=⟨rfl,rfl,rfl,by decide +kernel,rfl,by decide +kernel,by decide +kernel⟩
abbrev iQ:Stmt:=top 43
theorem gU:FnScope ["claims", "catch", "most", "part"] ["claims", "catch"] (aK iQ):=⟨rfl,rfl,rfl,by decide +kernel,rfl,by decide +kernel,by decide +kernel⟩
abbrev iL:Stmt:=top 44
theorem jE:FnScope ["claims", "catch", "ones"] ["claims", "catch"] (aK iL):=⟨rfl,rfl,rfl,by decide +kernel,rfl,by decide +kernel,by decide +kernel⟩
abbrev iA:Stmt:=top 46
theorem gD:FnScope ["way", "weights", "claims", "joints", "dealings"] ["way", "weights", "claims"] (aK iA):=⟨rfl,rfl,rfl,by decide +kernel,rfl,by decide +kernel,by decide +kernel⟩
abbrev nT:Stmt:=top 47
theorem zDr:FnScope ["joints", "dealings", "spot"] ["joints", "dealings", "spot"] (aK nT):=⟨rfl,rfl,rfl,by decide +kernel,rfl,by decide +kernel,by decide +kernel⟩
abbrev hJ:Stmt:=top 48
theorem fT:FnScope ["way", "weights", "claims", "most", "early"] ["way", "weights", "claims"] (aK hJ):=⟨rfl,rfl,rfl,by decide +kernel,rfl,by decide +kernel,by decide +kernel⟩
abbrev kU:Stmt:=top 49
theorem eQ:FnScope ["claims", "filled", "joints", "claim"] ["claims"] (aK kU):=⟨rfl,rfl,rfl,by decide +kernel,rfl,by decide +kernel,by decide +kernel⟩
abbrev jG:Stmt:=top 50
theorem cA:FnScope ["weights", "claims", "filled", "weight", "levels", "joints", "spot"] ["weights", "claims"] (aK jG):=⟨rfl,rfl,rfl,by decide +kernel,rfl,by decide +kernel,by decide +kernel⟩
abbrev lC:Stmt:=top 51
theorem sA:FnScope ["joints", "most"] ["joints", "most"] (aK lC):=⟨rfl,rfl,rfl,by decide +kernel,rfl,by decide +kernel,by decide +kernel⟩
abbrev fE:Stmt:=top 52
theorem eT:FnScope ["joints", "kept", "joint"] ["joints"] (aK fE):=⟨rfl,rfl,rfl,by decide +kernel,rfl,by decide +kernel,by decide +kernel⟩
abbrev jQ:Stmt:=top 54
theorem tL:FnScope ["script", "k"] ["script", "k"] (aK jQ):=⟨rfl,rfl,rfl,by decide +kernel,rfl,by decide +kernel,by decide +kernel⟩
abbrev oO:Stmt:=top 55
theorem eD:FnScope ["top", "bottom", "one", "other", "rest"] ["top", "bottom"] (aK oO):=⟨rfl,rfl,rfl,by decide +kernel,rfl,by decide +kernel,by decide +kernel⟩
abbrev oT:Stmt:=top 56
theorem zAV:FnScope ["one", "two"] ["one", "two"] (aK oT):=⟨rfl,rfl,rfl,by decide +kernel,rfl,by decide +kernel,by decide +kernel⟩
abbrev lX:Stmt:=top 57
theorem zAa:FnScope ["one", "two"] ["one", "two"] (aK lX):=⟨rfl,rfl,rfl,by decide +kernel,rfl,by decide +kernel,by decide +kernel⟩
abbrev lY:Stmt:=top 58
theorem zB:FnScope ["one", "two"] ["one", "two"] (aK lY):=⟨rfl,rfl,rfl,by decide +kernel,rfl,by decide +kernel,by decide +kernel⟩
abbrev oP:Stmt:=top 59
theorem zAS:FnScope ["one", "two"] ["one", "two"] (aK oP):=⟨rfl,rfl,rfl,by decide +kernel,rfl,by decide +kernel,by decide +kernel⟩
abbrev mM:Stmt:=top 60
theorem fZ:FnScope ["line", "x", "k", "run", "rise", "part"] ["line", "x"] (aK mM):=⟨rfl,rfl,rfl,by decide +kernel,rfl,by decide +kernel,by decide +kernel⟩
abbrev mC:Stmt:=top 61
theorem fY:FnScope ["cell", "line", "mix", "bottom", "x"] ["cell", "line"] (aK mC):=⟨rfl,rfl,rfl,by decide +kernel,rfl,by decide +kernel,by decide +kernel⟩
abbrev kO:Stmt:=top 62
theorem gT:FnScope ["cells", "plan", "claims", "cell", "mix"] ["cells", "plan"] (aK kO):=⟨rfl,rfl,rfl,by decide +kernel,rfl,by decide +kernel,by decide +kernel⟩
abbrev jM:Stmt:=top 63
theorem fR:FnScope ["cells", "plan", "weights", "cell", "mix"] ["cells", "plan"] (aK jM):=⟨rfl,rfl,rfl,by decide +kernel,rfl,by decide +kernel,by decide +kernel⟩
abbrev jR:Stmt:=top 64
theorem fQ:FnScope ["way", "weights", "claims", "kept", "e"] ["way", "weights", "claims"] (aK jR):=⟨rfl,rfl,rfl,by decide +kernel,rfl,by decide +kernel,by decide +kernel⟩
abbrev fK:Stmt:=top 65
theorem cK:FnScope ["way", "weights", "claims", "cell", "odd", "at", "bad", "others"] ["way", "weights", "claims", "cell"] (aK fK):=⟨rfl,rfl,rfl,by decide +kernel,rfl,by decide +kernel,by decide +kernel⟩
abbrev pJ:Stmt:=top 66
theorem gC:FnScope ["script", "plan", "claims", "way", "weights", "found", "cell", "x", "got", "much", "k", "others"] ["script"] (aK pJ):=⟨rfl,rfl,rfl,by decide +kernel,rfl,by decide +kernel,by decide +kernel⟩
structure Bt (mg:Str->Option Value):Prop where
 abs:mg "abs" = none
 sorted:mg "sorted" = none
 range:mg "range" = none
 len:mg "len" = none
 tuple:mg "tuple" = none
 reversed:mg "reversed" = none
 sum:mg "sum" = none
 zip:mg "zip" = none
 isinstance:mg "isinstance" = none
 list:mg "list" = none
structure Kt (K:PySem.W.Frag):Prop where
structure Ct (K:PySem.W.Frag) (mg:Str->Option Value):Prop where
 ACROSS:∃ v u,mg "ACROSS" = some u/\cY v u/\IsD K (fun _=>none) v d_ACROSS
 HALF:∃ v u,mg "HALF" = some u/\cY v u/\IsD K (fun _=>none) v d_HALF
 NOUGHT:∃ v u,mg "NOUGHT" = some u/\cY v u/\IsD K (fun _=>none) v fP
 UP:∃ v u,mg "UP" = some u/\cY v u/\IsD K (fun _=>none) v d_UP
 WEIGHTED:∃ v u,mg "WEIGHTED" = some u/\cY v u/\IsD K (fun _=>none) v d_WEIGHTED
 CONTRARY:∃ a,IsTab K mg "CONTRARY" aT a
structure Rt (K:PySem.W.Frag) (mg:Str->Option Value):Prop where
 BadClaim:∃ C,Err K mg "BadClaim" C
 BadLine:∃ C,Err K mg "BadLine" C
 BadWay:∃ C,Err K mg "BadWay" C
 BadWeights:∃ C,Err K mg "BadWeights" C
 NoFraction:∃ C,Err K mg "NoFraction" C
 Outside:∃ C,Err K mg "Outside" C
structure Et (K:PySem.W.Frag) (mg:Str->Option Value):Prop where
 cat:∀ c,tbT.contains c=true->Cat K mg "CatchError" c
 ek:EK K mg xZ ["BadWeights", "BadClaim", "BadWay", "ValueError"]
theorem zMZ {K:PySem.W.Frag} {h:Heap} {mg:Str->Option Value} {t0 t1 t2 t3 t4 t5 t6 t7:Tok} {pHALF0:Addr} {o_pHALF0:Option Addr} {n_pHALF0:Nat} {s_pHALF0:Array (Option Value)} {pNOUGHT1:Addr} {o_pNOUGHT1:Option Addr} {n_pNOUGHT1:Nat} {s_pNOUGHT1:Array (Option Value)} {pWEIGHTED2:Addr} {o_pWEIGHTED2:Option Addr} {n_pWEIGHTED2:Nat} {s_pWEIGHTED2:Array (Option Value)} {a_CONTRARY:Addr} (X:K.In h) (G:h.Ns mainGlobals mg) (n_ACROSS:PySem.W.nsIn K mainGlobals "ACROSS" = some (some (.int (0) t0))) (n_HALF:PySem.W.nsIn K mainGlobals "HALF" = some (some (.ref pHALF0))) (pHALF0_l:K.lookup pHALF0=some ⟨.type "tuple", o_pHALF0,.seq #[.int (1) t1,.int (2) t2] n_pHALF0,s_pHALF0⟩) (n_NOUGHT:PySem.W.nsIn K mainGlobals "NOUGHT" = some (some (.ref pNOUGHT1))) (pNOUGHT1_l:K.lookup pNOUGHT1=some ⟨.type "tuple", o_pNOUGHT1,.seq #[.int (0) t3,.int (1) t4] n_pNOUGHT1,s_pNOUGHT1⟩) (n_UP:PySem.W.nsIn K mainGlobals "UP" = some (some (.int (1) t5))) (n_WEIGHTED:PySem.W.nsIn K mainGlobals "WEIGHTED" = some (some (.ref pWEIGHTED2))) (pWEIGHTED2_l:K.lookup pWEIGHTED2=some ⟨.type "tuple", o_pWEIGHTED2,.seq #[.str "even" t6,.str "lack" t7] n_pWEIGHTED2,s_pWEIGHTED2⟩) (n_CONTRARY:PySem.W.nsIn K mainGlobals "CONTRARY" = some (some (.ref a_CONTRARY))) (aT:PyProof.Rows.KTD.tabLook (PyProof.Rows.KTD.datLooks fun a=>K.lookup a) (fun a=>K.lookup a) a_CONTRARY (zGy Lw.aT)=true):Ct K mg:=⟨⟨.int (0),_,PySem.W.mg_of X G n_ACROSS,⟨_,rfl⟩,(.int _)⟩,⟨.ref pHALF0,_,PySem.W.mg_of X G n_HALF,rfl,(.tup (.inr ⟨_,_,_,pHALF0_l,rfl,rfl,Nat.le_of_ble_eq_true rfl,(.cons (show cY (.int (1)) _ from ⟨_,rfl⟩) (.cons (show cY (.int (2)) _ from ⟨_,rfl⟩) .nil))⟩) (.cons (.int _) (.cons (.int _) .nil)))⟩,⟨.ref pNOUGHT1,_,PySem.W.mg_of X G n_NOUGHT,rfl,(.tup (.inr ⟨_,_,_,pNOUGHT1_l,rfl,rfl,Nat.le_of_ble_eq_true rfl,(.cons (show cY (.int (0)) _ from ⟨_,rfl⟩) (.cons (show cY (.int (1)) _ from ⟨_,rfl⟩) .nil))⟩) (.cons (.int _) (.cons (.int _) .nil)))⟩,⟨.int (1),_,PySem.W.mg_of X G n_UP,⟨_,rfl⟩,(.int _)⟩,⟨.ref pWEIGHTED2,_,PySem.W.mg_of X G n_WEIGHTED,rfl,(.tup (.inr ⟨_,_,_,pWEIGHTED2_l,rfl,rfl,Nat.le_of_ble_eq_true rfl,(.cons (show cY (.str "even") _ from ⟨_,rfl⟩) (.cons (show cY (.str "lack") _ from ⟨_,rfl⟩) .nil))⟩) (.cons (.str _) (.cons (.str _) .nil)))⟩,⟨a_CONTRARY,PySem.W.mg_of X G n_CONTRARY,fun h X=>PyProof.Rows.KTD.text_of_look X aT⟩⟩
theorem zNp {K:PySem.W.Frag} {h:Heap} {mg:Str->Option Value} {C_BadClaim:Addr} {C_BadLine:Addr} {C_BadWay:Addr} {C_BadWeights:Addr} {C_NoFraction:Addr} {C_Outside:Addr} (X:K.In h) (G:h.Ns mainGlobals mg) (n_BadClaim:PySem.W.nsIn K mainGlobals "BadClaim" = some (some (.ref C_BadClaim))) (x_BadClaim:PySem.W.excIn K C_BadClaim [.type "ValueError", .type "Exception", .type "BaseException", .type "object"] "ValueError.__new__" = true) (n_BadLine:PySem.W.nsIn K mainGlobals "BadLine" = some (some (.ref C_BadLine))) (x_BadLine:PySem.W.excIn K C_BadLine [.type "ValueError", .type "Exception", .type "BaseException", .type "object"] "ValueError.__new__" = true) (n_BadWay:PySem.W.nsIn K mainGlobals "BadWay" = some (some (.ref C_BadWay))) (x_BadWay:PySem.W.excIn K C_BadWay [.type "ValueError", .type "Exception", .type "BaseException", .type "object"] "ValueError.__new__" = true) (n_BadWeights:PySem.W.nsIn K mainGlobals "BadWeights" = some (some (.ref C_BadWeights))) (x_BadWeights:PySem.W.excIn K C_BadWeights [.type "ValueError", .type "Exception", .type "BaseException", .type "object"] "ValueError.__new__" = true) (n_NoFraction:PySem.W.nsIn K mainGlobals "NoFraction" = some (some (.ref C_NoFraction))) (x_NoFraction:PySem.W.excIn K C_NoFraction [.type "ValueError", .type "Exception", .type "BaseException", .type "object"] "ValueError.__new__" = true) (n_Outside:PySem.W.nsIn K mainGlobals "Outside" = some (some (.ref C_Outside))) (x_Outside:PySem.W.excIn K C_Outside [.type "ValueError", .type "Exception", .type "BaseException", .type "object"] "ValueError.__new__" = true):Rt K mg:=⟨uT X G n_BadClaim x_BadClaim PySem.F.excBase_ValueError,uT X G n_BadLine x_BadLine PySem.F.excBase_ValueError,uT X G n_BadWay x_BadWay PySem.F.excBase_ValueError,uT X G n_BadWeights x_BadWeights PySem.F.excBase_ValueError,uT X G n_NoFraction x_NoFraction PySem.F.excBase_ValueError,uT X G n_Outside x_Outside PySem.F.excBase_ValueError⟩
theorem zNk {K:PySem.W.Frag} {h:Heap} {mg:Str->Option Value} {C_CatchError:Addr} {C_BadWay:Addr} {C_BadClaim:Addr} {C_BadWeights:Addr} (X:K.In h) (G:h.Ns mainGlobals mg)
  (n_CatchError:PySem.W.nsIn K mainGlobals "CatchError" = some (some (.ref C_CatchError)))
  (n_BadWay:PySem.W.nsIn K mainGlobals "BadWay" = some (some (.ref C_BadWay)))
  (n_BadClaim:PySem.W.nsIn K mainGlobals "BadClaim" = some (some (.ref C_BadClaim)))
  (n_BadWeights:PySem.W.nsIn K mainGlobals "BadWeights" = some (some (.ref C_BadWeights)))
  (z_ValueError:PySem.W.nsIn K mainGlobals "ValueError" = some none)
  (ce1:PySem.W.typeIn K (.ref C_CatchError)=some (.type "type"))
  (ce2:PySem.W.hasDictIn K C_CatchError=true)
  (ce3:PySem.W.mroIn K C_CatchError (.type "BaseException")=some true)
  (g5:PySem.W.specialIn K (.builtin "object.__class__") "__get__" = some (some (.builtin "getset_descriptor.__get__")))
  (g6:PySem.W.takesIn K (.builtin "object.__class__")=some true)
  (e1_BadWay:PySem.W.hasDictIn K C_BadWay=true)
  (e2_BadWay:PySem.W.findIn K (.ref C_BadWay) "__getattribute__" = some (some (.builtin "BaseException.__getattribute__")))
  (e3_BadWay:PySem.W.findIn K (.ref C_BadWay) "__getattr__" = some none)
  (e4_BadWay:PySem.W.findIn K (.ref C_BadWay) "__class__" = some (some (.builtin "object.__class__")))
  (e7_BadWay:PySem.W.mroIn K C_BadWay (.type "object")=some true)
  (e8_BadWay:PySem.W.mroIn K C_BadWay (.type "BaseException")=some true)
  (em_BadWay:PySem.W.mroIn K C_BadWay (.ref C_CatchError)=some true)
  (k_BadWay_BadWeights:PySem.W.kitOne K (.ref C_BadWay) (.ref C_BadWeights)=some false)
  (k_BadWay_BadClaim:PySem.W.kitOne K (.ref C_BadWay) (.ref C_BadClaim)=some false)
  (k_BadWay_BadWay:PySem.W.kitOne K (.ref C_BadWay) (.ref C_BadWay)=some true)
  (k_BadWay_ValueError:PySem.W.kitOne K (.ref C_BadWay) (.type "ValueError")=some true)
  (e1_BadClaim:PySem.W.hasDictIn K C_BadClaim=true)
  (e2_BadClaim:PySem.W.findIn K (.ref C_BadClaim) "__getattribute__" = some (some (.builtin "BaseException.__getattribute__")))
  (e3_BadClaim:PySem.W.findIn K (.ref C_BadClaim) "__getattr__" = some none)
  (e4_BadClaim:PySem.W.findIn K (.ref C_BadClaim) "__class__" = some (some (.builtin "object.__class__")))
  (e7_BadClaim:PySem.W.mroIn K C_BadClaim (.type "object")=some true)
  (e8_BadClaim:PySem.W.mroIn K C_BadClaim (.type "BaseException")=some true)
  (em_BadClaim:PySem.W.mroIn K C_BadClaim (.ref C_CatchError)=some true)
  (k_BadClaim_BadWeights:PySem.W.kitOne K (.ref C_BadClaim) (.ref C_BadWeights)=some false)
  (k_BadClaim_BadClaim:PySem.W.kitOne K (.ref C_BadClaim) (.ref C_BadClaim)=some true)
  (k_BadClaim_BadWay:PySem.W.kitOne K (.ref C_BadClaim) (.ref C_BadWay)=some false)
  (k_BadClaim_ValueError:PySem.W.kitOne K (.ref C_BadClaim) (.type "ValueError")=some true)
  (e1_BadWeights:PySem.W.hasDictIn K C_BadWeights=true)
  (e2_BadWeights:PySem.W.findIn K (.ref C_BadWeights) "__getattribute__" = some (some (.builtin "BaseException.__getattribute__")))
  (e3_BadWeights:PySem.W.findIn K (.ref C_BadWeights) "__getattr__" = some none)
  (e4_BadWeights:PySem.W.findIn K (.ref C_BadWeights) "__class__" = some (some (.builtin "object.__class__")))
  (e7_BadWeights:PySem.W.mroIn K C_BadWeights (.type "object")=some true)
  (e8_BadWeights:PySem.W.mroIn K C_BadWeights (.type "BaseException")=some true)
  (em_BadWeights:PySem.W.mroIn K C_BadWeights (.ref C_CatchError)=some true)
  (k_BadWeights_BadWeights:PySem.W.kitOne K (.ref C_BadWeights) (.ref C_BadWeights)=some true)
  (k_BadWeights_BadClaim:PySem.W.kitOne K (.ref C_BadWeights) (.ref C_BadClaim)=some false)
  (k_BadWeights_BadWay:PySem.W.kitOne K (.ref C_BadWeights) (.ref C_BadWay)=some false)
  (k_BadWeights_ValueError:PySem.W.kitOne K (.ref C_BadWeights) (.type "ValueError")=some true):Et K mg:=by
 refine ⟨fun c hc=>?_,fun c l hl=>?_⟩
 ·simp only [tbT,List.contains_cons,List.contains_nil,Bool.or_false,Bool.or_eq_true,beq_iff_eq] at hc
  rcases hc with rfl | rfl | rfl
  ·exact ⟨C_BadWay,C_CatchError,PySem.W.mg_of X G n_BadWay,PySem.W.mg_of X G n_CatchError,(vC e1_BadWay e2_BadWay e3_BadWay e4_BadWay g5 g6 e7_BadWay e8_BadWay),zDF ce1 ce2 ce3,em_BadWay⟩
  ·exact ⟨C_BadClaim,C_CatchError,PySem.W.mg_of X G n_BadClaim,PySem.W.mg_of X G n_CatchError,(vC e1_BadClaim e2_BadClaim e3_BadClaim e4_BadClaim g5 g6 e7_BadClaim e8_BadClaim),zDF ce1 ce2 ce3,em_BadClaim⟩
  ·exact ⟨C_BadWeights,C_CatchError,PySem.W.mg_of X G n_BadWeights,PySem.W.mg_of X G n_CatchError,(vC e1_BadWeights e2_BadWeights e3_BadWeights e4_BadWeights g5 g6 e7_BadWeights e8_BadWeights),zDF ce1 ce2 ce3,em_BadWeights⟩
 ·have hm:=uQ hl
  simp only [xZ,List.mem_cons,List.not_mem_nil,or_false,Prod.mk.injEq] at hm
  rcases hm with ⟨rfl,rfl⟩ | ⟨rfl,rfl⟩ | ⟨rfl,rfl⟩
  ·refine ⟨C_BadWay,PySem.W.mg_of X G n_BadWay,(vC e1_BadWay e2_BadWay e3_BadWay e4_BadWay g5 g6 e7_BadWay e8_BadWay),fun x hx=>?_⟩
   simp only [List.contains_cons,List.contains_nil,Bool.or_false,Bool.or_eq_true,beq_iff_eq] at hx
   rcases hx with rfl | rfl | rfl | rfl
   ·exact ⟨_,_,gP X G n_BadWeights,⟨_,.inl rfl⟩,k_BadWay_BadWeights⟩
   ·exact ⟨_,_,gP X G n_BadClaim,⟨_,.inl rfl⟩,k_BadWay_BadClaim⟩
   ·exact ⟨_,_,gP X G n_BadWay,⟨_,.inl rfl⟩,k_BadWay_BadWay⟩
   ·exact ⟨_,_,xF X G z_ValueError PyProof.Rows.Boot.«ValueError» (by decide),⟨0,.inr ⟨_,rfl⟩⟩,k_BadWay_ValueError⟩
  ·refine ⟨C_BadClaim,PySem.W.mg_of X G n_BadClaim,(vC e1_BadClaim e2_BadClaim e3_BadClaim e4_BadClaim g5 g6 e7_BadClaim e8_BadClaim),fun x hx=>?_⟩
   simp only [List.contains_cons,List.contains_nil,Bool.or_false,Bool.or_eq_true,beq_iff_eq] at hx
   rcases hx with rfl | rfl | rfl | rfl
   ·exact ⟨_,_,gP X G n_BadWeights,⟨_,.inl rfl⟩,k_BadClaim_BadWeights⟩
   ·exact ⟨_,_,gP X G n_BadClaim,⟨_,.inl rfl⟩,k_BadClaim_BadClaim⟩
   ·exact ⟨_,_,gP X G n_BadWay,⟨_,.inl rfl⟩,k_BadClaim_BadWay⟩
   ·exact ⟨_,_,xF X G z_ValueError PyProof.Rows.Boot.«ValueError» (by decide),⟨0,.inr ⟨_,rfl⟩⟩,k_BadClaim_ValueError⟩
  ·refine ⟨C_BadWeights,PySem.W.mg_of X G n_BadWeights,(vC e1_BadWeights e2_BadWeights e3_BadWeights e4_BadWeights g5 g6 e7_BadWeights e8_BadWeights),fun x hx=>?_⟩
   simp only [List.contains_cons,List.contains_nil,Bool.or_false,Bool.or_eq_true,beq_iff_eq] at hx
   rcases hx with rfl | rfl | rfl | rfl
   ·exact ⟨_,_,gP X G n_BadWeights,⟨_,.inl rfl⟩,k_BadWeights_BadWeights⟩
   ·exact ⟨_,_,gP X G n_BadClaim,⟨_,.inl rfl⟩,k_BadWeights_BadClaim⟩
   ·exact ⟨_,_,gP X G n_BadWay,⟨_,.inl rfl⟩,k_BadWeights_BadWay⟩
   ·exact ⟨_,_,xF X G z_ValueError PyProof.Rows.Boot.«ValueError» (by decide),⟨0,.inr ⟨_,rfl⟩⟩,k_BadWeights_ValueError⟩
section
variable {P:Program} {w:World} {K:PySem.W.Frag} {mg:Str->Option Value} {base:Heap} {k:Nat} {f:Addr} {fd:FuncData}
theorem pN (F:Fn K mg "common_divisor" gJ ["one", "two"] f fd) (B:Bt mg) (KT:Kt K) (C:Ct K mg) (R:Rt K mg) (ET:Et K mg)  : CanM P w K mg base (k+1) "common_divisor" ["one", "two"] dD:=
  aV F cD fun cdv A outer s H E G W WR=>(aH (bH (i:=0) cD.nd rfl (Or.inl rfl) (bE qN zBS rfl B.abs boot_abs (aA (aB 0 (pv 0)) aF aD)))
 (aH (bH (i:=1) cD.nd rfl (Or.inl rfl) (bE qN zBS rfl B.abs boot_abs (aA (aB 1 (pv 1)) aF aD)))
 (aH (zFf W.own (tst (neA W.u) zFU (aB 1 (pv 1)) (aP aG fun _=>.int _) (bL _)) (aH (bH (i:=2) cD.nd rfl (Or.inl rfl) (aU bZ gX (aB 0 (pv 0)) (aB 1 (pv 1))))
 (aH (bH (i:=0) cD.nd rfl (Or.inl rfl) (aB 1 (pv 1)))
 (aM (bH (i:=1) cD.nd rfl (Or.inl rfl) (aB 2 (pv 2)))))))
 (aM (dH (aB 0 (pv 0)))))))
theorem zGc (F:Fn K mg "whole" zBo ["number"] f fd) (B:Bt mg) (KT:Kt K) (C:Ct K mg) (R:Rt K mg) (ET:Et K mg)  : CanM P w K mg base (k+1) "whole" ["number"] bN:=
 aV F zGA fun cdv A outer s H E G W WR=>(aM (dH (nV (aA (aB 0 (pv 0)) (aA (aP aG fun _=>.int _) aF bA) aD))))
theorem zIy (F:Fn K mg "less" zDC ["one", "two"] f fd) (B:Bt mg) (KT:Kt K) (C:Ct K mg) (R:Rt K mg) (ET:Et K mg)  : CanM P w K mg base (k+1) "less" ["one", "two"] gK:=
 aV F zJb fun cdv A outer s H E G W WR=>(aM (dH (zCC zAU zIk (aU bR gE (aQ aI bO (aB 0 (pv 0)) (aP aG fun _=>.int _) (fun _ _=>rfl)) (aQ aI bO (aB 1 (pv 1)) (aP aG fun _=>.int _) (fun _ _=>rfl))) (aU bR gE (aQ aI bO (aB 1 (pv 1)) (aP aG fun _=>.int _) (fun _ _=>rfl)) (aQ aI bO (aB 0 (pv 0)) (aP aG fun _=>.int _) (fun _ _=>rfl))) (bL _))))
theorem zDN:RankDef gN:=⟨rfl,rfl,rfl,rfl,rfl,fun _ _ _=>⟨_,_,rfl,rfl,rfl⟩⟩
theorem zFD (F:Fn K mg "ranked" gN ["some"] f fd) (B:Bt mg) (KT:Kt K) (C:Ct K mg) (R:Rt K mg) (ET:Et K mg) {T:Addr} (hT:nM K mg T) (hB:BMn base mg):CanR P w K mg base (k+1) iM:=
 zII F nK zDN hT hB B.sorted B.range B.len rfl fun cdv A outer s H E G W WR=>⟨(bH (i:=1) nK.nd rfl (Or.inr rfl) (aP aG fun _=>.int _)),(nU W.own W.calm (lN (aB 0 (pv 0))) (gM (i:=2) nK.nd rfl (Or.inl rfl)) cS (aM (bH (i:=1) nK.nd rfl (Or.inr rfl) (aU bR gE (aB 1 (pv 1)) (aQ aI bO (aB 2 (pv 2)) (aP aG fun _=>.int _) (fun _ _=>rfl))))))⟩
theorem xY (F:Fn K mg "refuse_way" kT ["way"] f fd) (B:Bt mg) (KT:Kt K) (C:Ct K mg) (R:Rt K mg) (ET:Et K mg)  : CanM P w K mg base (k+1) "refuse_way" ["way"] cI:=
 aV F wA fun cdv A outer s H E G W WR=>(aM (jY (zGq C.CONTRARY.choose_spec rfl (aB 0 (pv 0)) (by with_unfolding_all rfl)) (aM (gZ W WR R.BadWay rfl (aA (aP cH fun _=>.str _) aF bA))) bM))
theorem qF (F:Fn K mg "refuse_claims" iB ["claims"] f fd) (B:Bt mg) (KT:Kt K) (C:Ct K mg) (R:Rt K mg) (ET:Et K mg)  : CanM P w K mg base (k+1) "refuse_claims" ["claims"] cE:=
  aV F jV fun cdv A outer s H E G W WR=>(aH (jY (tst (eqA W.u) yA (bE aY fA rfl B.len PySem.boot_len (aA (aB 0 (pv 0)) aF aD)) (aP aG fun _=>.int _) (bL _)) (aM (gZ W WR R.BadClaim rfl (aA (aP cH fun _=>.str _) aF bA))) bM)
 (aM (nU W.own W.calm (lN (aB 0 (pv 0))) (gM (i:=1) jV.nd rfl (Or.inl rfl)) cS (aM (jY (tst zAU zIk (aB 1 (pv 1)) (aP aG fun _=>.int _) (bL _)) (aM (gZ W WR R.BadClaim rfl (aA (aP cH fun _=>.str _) aF bA))) bM)))))
theorem oY (F:Fn K mg "refuse_weights" gI ["way", "weights", "many"] f fd) (B:Bt mg) (KT:Kt K) (C:Ct K mg) (R:Rt K mg) (ET:Et K mg)  : CanM P w K mg base (k+1) "refuse_weights" ["way", "weights", "many"] bF:=
  aV F fL fun cdv A outer s H E G W WR=>(aH (bH (i:=3) fL.nd rfl (Or.inl rfl) (zKY (tst (inA W.u) zND (aB 0 (pv 0)) (bP rfl C.WEIGHTED) (by with_unfolding_all rfl)) (aB 2 (pv 2)) (aP aG fun _=>.int _)))
 (aH (jY (tst (neA W.u) zFU (bE aY fA rfl B.len PySem.boot_len (aA (aB 1 (pv 1)) aF aD)) (aB 3 (pv 3)) (bL _)) (aM (gZ W WR R.BadWeights rfl (aA (aP cH fun _=>.str _) aF bA))) bM)
 (aM (nU W.own W.calm (lN (aB 1 (pv 1))) (gM (i:=4) fL.nd rfl (Or.inl rfl)) cS (aM (jY (PWd.pt (zOm (tst zAU zIk (aB 4 (pv 4)) (aP aG fun _=>.int _) (bL _)) (zMG (tst zGH zMh (aB 4 (pv 4)) (aU sO zEv (aP aG fun _=>.int _) (aP aG fun _=>.int _)) (bL _))))) (aM (gZ W WR R.BadWeights rfl (aA (aP cH fun _=>.str _) aF bA))) bM))))))
theorem tI (F:Fn K mg "_law_cell_at" jQ ["script", "k"] f fd) (B:Bt mg) (KT:Kt K) (C:Ct K mg) (R:Rt K mg) (ET:Et K mg)  : CanM P w K mg base (k+1) "_law_cell_at" ["script", "k"] dB:=
  aV F tL fun cdv A outer s H E G W WR=>(aH (jY (tst zAU zIk (aB 1 (pv 1)) (bE aY fA rfl B.len PySem.boot_len (aA (aB 0 (pv 0)) aF aD)) (bL _)) (aM (dH (aQ aI bO (aB 0 (pv 0)) (aB 1 (pv 1)) (fun _ _=>rfl)))) bM)
 (aM (dH (aP aG fun _=>.int _))))
theorem zAY (F:Fn K mg "_law_made" oO ["top", "bottom"] f fd) (B:Bt mg) (KT:Kt K) (C:Ct K mg) (R:Rt K mg) (ET:Et K mg)  : CanM P w K mg base (k+1) "_law_made" ["top", "bottom"] cW:=
  aV F eD fun cdv A outer s H E G W WR=>(aH (bH (i:=2) eD.nd rfl (Or.inl rfl) (bE qN zBS rfl B.abs boot_abs (aA (aB 0 (pv 0)) aF aD)))
 (aH (bH (i:=3) eD.nd rfl (Or.inl rfl) (bE qN zBS rfl B.abs boot_abs (aA (aB 1 (pv 1)) aF aD)))
 (aH (zFf W.own (tst zGH zMh (aB 3 (pv 3)) (aP aG fun _=>.int _) (bL _)) (aH (bH (i:=4) eD.nd rfl (Or.inl rfl) (aU bZ gX (aB 2 (pv 2)) (aB 3 (pv 3))))
 (aH (bH (i:=2) eD.nd rfl (Or.inl rfl) (aB 3 (pv 3)))
 (aM (bH (i:=3) eD.nd rfl (Or.inl rfl) (aB 4 (pv 4)))))))
 (aH (jY (tst zAU zIk (aB 1 (pv 1)) (aP aG fun _=>.int _) (bL _)) (aM (bH (i:=2) eD.nd rfl (Or.inl rfl) (aU kC sG (aP aG fun _=>.int _) (aB 2 (pv 2))))) bM)
 (aM (dH (nV (aA (aU cX jU (aB 0 (pv 0)) (aB 2 (pv 2))) (aA (aU cX jU (aB 1 (pv 1)) (aB 2 (pv 2))) aF aX) aX))))))))
theorem zAH (F:Fn K mg "_law_less" oP ["one", "two"] f fd) (B:Bt mg) (KT:Kt K) (C:Ct K mg) (R:Rt K mg) (ET:Et K mg)  : CanM P w K mg base (k+1) "_law_less" ["one", "two"] jA:=
 aV F zAS fun cdv A outer s H E G W WR=>(aM (dH (zCC zAU zIk (aU bR gE (aQ aI bO (aB 0 (pv 0)) (aP aG fun _=>.int _) (fun _ _=>rfl)) (aQ aI bO (aB 1 (pv 1)) (aP aG fun _=>.int _) (fun _ _=>rfl))) (aU bR gE (aQ aI bO (aB 1 (pv 1)) (aP aG fun _=>.int _) (fun _ _=>rfl)) (aQ aI bO (aB 0 (pv 0)) (aP aG fun _=>.int _) (fun _ _=>rfl))) (bL _))))
theorem vM (F:Fn K mg "_law_claims" kO ["cells", "plan"] f fd) (B:Bt mg) (KT:Kt K) (C:Ct K mg) (R:Rt K mg) (ET:Et K mg)  : CanM P w K mg base (k+1) "_law_claims" ["cells", "plan"] gB:=
  aV F gT fun cdv A outer s H E G W WR=>(aH (zAr (i:=2) gT.nd rfl (Or.inl rfl) (bT aF))
 (aH (nU W.own W.calm (lN (aB 0 (pv 0))) (gM (i:=3) gT.nd rfl (Or.inl rfl)) cS (aH (bH (i:=4) gT.nd rfl (Or.inl rfl) (aU bZ gX (aU fG pL (aU bR gE (aB 3 (pv 3)) (aP aG fun _=>.int _)) (aP aG fun _=>.int _)) (aP aG fun _=>.int _)))
 (aM (zBy (i:=2) (pv 2) (aQ aI bO (PEf.d (bT (aA (aU bZ gX (aU cX jU (aB 4 (pv 4)) (aP aG fun _=>.int _)) (aP aG fun _=>.int _)) (aA (aU bZ gX (aU cX jU (aB 4 (pv 4)) (aP aG fun _=>.int _)) (aP aG fun _=>.int _)) (aA (aU bZ gX (aB 3 (pv 3)) (aU sO zEv (aP aG fun _=>.int _) (aP aG fun _=>.int _))) aF aX) aX) aX))) (aQ aI bO (PEf.d (bT (aA (aP aG fun _=>.int _) (aA (aP aG fun _=>.int _) (aA (aP aG fun _=>.int _) (aA (aP aG fun _=>.int _) aF bA) bA) bA) bA))) (aU bZ gX (aB 1 (pv 1)) (aP aG fun _=>.int _)) (fun _ _=>rfl)) (fun _ _=>rfl))))))
 (aM (jT 2 (pv 2)))))
theorem uF (F:Fn K mg "_law_weights" jM ["cells", "plan"] f fd) (B:Bt mg) (KT:Kt K) (C:Ct K mg) (R:Rt K mg) (ET:Et K mg)  : CanM P w K mg base (k+1) "_law_weights" ["cells", "plan"] eO:=
  aV F fR fun cdv A outer s H E G W WR=>(aH (zAr (i:=2) fR.nd rfl (Or.inl rfl) (bT aF))
 (aH (nU W.own W.calm (lN (aB 0 (pv 0))) (gM (i:=3) fR.nd rfl (Or.inl rfl)) cS (aH (bH (i:=4) fR.nd rfl (Or.inl rfl) (aU bZ gX (aU fG pL (aU bR gE (aB 3 (pv 3)) (aP aG fun _=>.int _)) (aP aG fun _=>.int _)) (aP aG fun _=>.int _)))
 (aM (zBy (i:=2) (pv 2) (aU fG pL (aP aG fun _=>.int _) (aQ aI bO (PEf.d (bT (aA (aU bZ gX (aU cX jU (aB 4 (pv 4)) (aP aG fun _=>.int _)) (aP aG fun _=>.int _)) (aA (aU bZ gX (aU cX jU (aB 4 (pv 4)) (aP aG fun _=>.int _)) (aU sO zEv (aP aG fun _=>.int _) (aP aG fun _=>.int _))) aF aX) aX))) (aU cX jU (aU bZ gX (aU cX jU (aB 1 (pv 1)) (aP aG fun _=>.int _)) (aP aG fun _=>.int _)) (aP aG fun _=>.int _)) (fun _ _=>rfl)))))))
 (aM (jT 2 (pv 2)))))
theorem zIX (F:Fn K mg "made" zFG ["top", "bottom"] f fd) (B:Bt mg) (KT:Kt K) (C:Ct K mg) (R:Rt K mg) (ET:Et K mg) (c_common_divisor:CanM P w K mg base k "common_divisor" ["one", "two"] dD):CanM P w K mg base (k+1) "made" ["top", "bottom"] hU:=
  aV F zAE fun cdv A outer s H E G W WR=>(aH (jY (tst (eqA W.u) yA (aB 1 (pv 1)) (aP aG fun _=>.int _) (bL _)) (aM (gZ W WR R.NoFraction rfl (aA (aP cH fun _=>.str _) aF bA))) bM)
 (aH (bH (i:=2) zAE.nd rfl (Or.inl rfl) (aL W c_common_divisor rfl (aA (aB 0 (pv 0)) (aA (aB 1 (pv 1)) aF aD) aD)))
 (aH (jY (tst zAU zIk (aB 1 (pv 1)) (aP aG fun _=>.int _) (bL _)) (aM (bH (i:=2) zAE.nd rfl (Or.inl rfl) (rL (aB 2 (pv 2))))) bM)
 (aM (dH (nV (aA (aU cX jU (aB 0 (pv 0)) (aB 2 (pv 2))) (aA (aU cX jU (aB 1 (pv 1)) (aB 2 (pv 2))) aF aX) aX)))))))
theorem zDS (F:Fn K mg "lesser" xE ["one", "two"] f fd) (B:Bt mg) (KT:Kt K) (C:Ct K mg) (R:Rt K mg) (ET:Et K mg) (c_less:CanM P w K mg base k "less" ["one", "two"] gK):CanM P w K mg base (k+1) "lesser" ["one", "two"] jF:=
 aV F zFB fun cdv A outer s H E G W WR=>(aM (dH (zKY (zHO (aL W c_less rfl (aA (aB 0 (pv 0)) (aA (aB 1 (pv 1)) aF aD) aD))) (aB 0 (pv 0)) (aB 1 (pv 1)))))
theorem vR (F:Fn K mg "is_outside" kI ["amount", "most"] f fd) (B:Bt mg) (KT:Kt K) (C:Ct K mg) (R:Rt K mg) (ET:Et K mg) (c_less:CanM P w K mg base k "less" ["one", "two"] gK):CanM P w K mg base (k+1) "is_outside" ["amount", "most"] fS:=
 aV F xT fun cdv A outer s H E G W WR=>(aM (dH (zMS (aL W c_less rfl (aA (aB 0 (pv 0)) (aA (bP rfl C.NOUGHT) aF aD) aD)) (zKt (aL W c_less rfl (aA (aB 1 (pv 1)) (aA (aB 0 (pv 0)) aF aD) aD))))))
theorem xN (F:Fn K mg "refuse_bad" kR ["points"] f fd) (B:Bt mg) (KT:Kt K) (C:Ct K mg) (R:Rt K mg) (ET:Et K mg) (c_less:CanM P w K mg base k "less" ["one", "two"] gK):CanM P w K mg base (k+1) "refuse_bad" ["points"] fV:=
  aV F gW fun cdv A outer s H E G W WR=>(aH (jY (tst (eqA W.u) yA (bE aY fA rfl B.len PySem.boot_len (aA (aB 0 (pv 0)) aF aD)) (aP aG fun _=>.int _) (bL _)) (aM (gZ W WR R.BadLine rfl (aA (aP cH fun _=>.str _) aF bA))) bM)
 (aH (jY (tst (neA W.u) zFU (aQ aI bO (aB 0 (pv 0)) (aP aG fun _=>.int _) (fun _ _=>rfl)) (nV (aA (bP rfl C.NOUGHT) (aA (bP rfl C.NOUGHT) aF aD) aD)) (bL _)) (aM (gZ W WR R.BadLine rfl (aA (aP cH fun _=>.str _) aF bA))) bM)
 (aM (nU W.own W.calm (zKR rfl B.range (aA (aP aG fun _=>.int _) (aA (bE aY fA rfl B.len PySem.boot_len (aA (aB 0 (pv 0)) aF aD)) aF aO) bA)) (gM (i:=1) gW.nd rfl (Or.inl rfl)) cS (aH (bH (i:=2) gW.nd rfl (Or.inl rfl) (aQ aI bO (aB 0 (pv 0)) (aU kC sG (aB 1 (pv 1)) (aP aG fun _=>.int _)) (fun _ _=>rfl)))
 (aH (bH (i:=3) gW.nd rfl (Or.inl rfl) (aQ aI bO (aB 0 (pv 0)) (aB 1 (pv 1)) (fun _ _=>rfl)))
 (aH (jY (zNJ (zHO (aL W c_less rfl (aA (aQ aI bO (aB 2 (pv 2)) (bP rfl C.ACROSS) (fun _ _=>rfl)) (aA (aQ aI bO (aB 3 (pv 3)) (bP rfl C.ACROSS) (fun _ _=>rfl)) aF aR) aR)))) (aM (gZ W WR R.BadLine rfl (aA (aP cH fun _=>.str _) aF bA))) bM)
 (aM (jY (zHO (aL W c_less rfl (aA (aQ aI bO (aB 3 (pv 3)) (bP rfl C.UP) (fun _ _=>rfl)) (aA (aQ aI bO (aB 2 (pv 2)) (bP rfl C.UP) (fun _ _=>rfl)) aF aR) aR))) (aM (gZ W WR R.BadLine rfl (aA (aP cH fun _=>.str _) aF bA))) bM)))))))))
theorem zDV (F:Fn K mg "looked" xO ["way", "weights", "claims"] f fd) (B:Bt mg) (KT:Kt K) (C:Ct K mg) (R:Rt K mg) (ET:Et K mg) (c_refuse_way:CanM P w K mg base k "refuse_way" ["way"] cI) (c_refuse_claims:CanM P w K mg base k "refuse_claims" ["claims"] cE) (c_refuse_weights:CanM P w K mg base k "refuse_weights" ["way", "weights", "many"] bF):CanM P w K mg base (k+1) "looked" ["way", "weights", "claims"] cN:=
  aV F zEC fun cdv A outer s H E G W WR=>(aH (pU (aL W c_refuse_way rfl (aA (aB 0 (pv 0)) aF aD)))
 (aH (pU (aL W c_refuse_claims rfl (aA (aB 2 (pv 2)) aF aD)))
 (aM (pU (aL W c_refuse_weights rfl (aA (aB 0 (pv 0)) (aA (aB 1 (pv 1)) (aA (bE aY fA rfl B.len PySem.boot_len (aA (aB 2 (pv 2)) aF aD)) aF aO) aD) aD))))))
theorem rE (F:Fn K mg "contrary_way" iS ["way"] f fd) (B:Bt mg) (KT:Kt K) (C:Ct K mg) (R:Rt K mg) (ET:Et K mg) (c_refuse_way:CanM P w K mg base k "refuse_way" ["way"] cI):CanM P w K mg base (k+1) "contrary_way" ["way"] cB:=
  aV F rV fun cdv A outer s H E G W WR=>(aH (pU (aL W c_refuse_way rfl (aA (aB 0 (pv 0)) aF aD)))
 (aM (dH (zHE C.CONTRARY.choose_spec rfl (aB 0 (pv 0)) (fun _ _=>rfl)))))
theorem wH (F:Fn K mg "row_joints" kU ["claims"] f fd) (B:Bt mg) (KT:Kt K) (C:Ct K mg) (R:Rt K mg) (ET:Et K mg) (c_whole:CanM P w K mg base k "whole" ["number"] bN):CanM P w K mg base (k+1) "row_joints" ["claims"] eK:=
  aV F eQ fun cdv A outer s H E G W WR=>(aH (bH (i:=1) eQ.nd rfl (Or.inl rfl) (aP aG fun _=>.int _))
 (aH (zAr (i:=2) eQ.nd rfl (Or.inl rfl) (bT (aA (bP rfl C.NOUGHT) aF aD)))
 (aH (nU W.own W.calm (lN (aB 0 (pv 0))) (gM (i:=3) eQ.nd rfl (Or.inl rfl)) cS (aH (zHb (i:=1) eQ.nd rfl (Or.inl rfl) (aB 3 (pv 3)) zHy zDT zCK)
 (aM (zBy (i:=2) (pv 2) (aL W c_whole rfl (aA (aB 1 (pv 1)) aF aD))))))
 (aM (jT 2 (pv 2))))))
theorem nS (F:Fn K mg "without_doubles" fE ["joints"] f fd) (B:Bt mg) (KT:Kt K) (C:Ct K mg) (R:Rt K mg) (ET:Et K mg) (c_less:CanM P w K mg base k "less" ["one", "two"] gK):CanM P w K mg base (k+1) "without_doubles" ["joints"] cU:=
  aV F eT fun cdv A outer s H E G W WR=>(aH (zAr (i:=1) eT.nd rfl (Or.inl rfl) (iN (aB 0 (pv 0)) mH (jJ (aP aG fun _=>.int _))))
 (aH (nU W.own W.calm (lN (aB 0 (pv 0))) (gM (i:=2) eT.nd rfl (Or.inl rfl)) cS (aM (jY (PTd.frz (zHO (aL W c_less rfl (aA (aQ aI bO (aB 1 (pv 1)) (rL (aP aG fun _=>.int _)) (fun _ _=>rfl)) (aA (aB 2 (pv 2)) aF aD) aR)))) (aM (zBy (i:=1) (pv 1) (aB 2 (pv 2)))) bM)))
 (aM (jT 1 (pv 1)))))
theorem zBv (F:Fn K mg "_law_plus" oT ["one", "two"] f fd) (B:Bt mg) (KT:Kt K) (C:Ct K mg) (R:Rt K mg) (ET:Et K mg) (c_law_made:CanM P w K mg base k "_law_made" ["top", "bottom"] cW):CanM P w K mg base (k+1) "_law_plus" ["one", "two"] fM:=
 aV F zAV fun cdv A outer s H E G W WR=>(aM (dH (aL W c_law_made rfl (aA (aU fG pL (aU bR gE (aQ aI bO (aB 0 (pv 0)) (aP aG fun _=>.int _) (fun _ _=>rfl)) (aQ aI bO (aB 1 (pv 1)) (aP aG fun _=>.int _) (fun _ _=>rfl))) (aU bR gE (aQ aI bO (aB 1 (pv 1)) (aP aG fun _=>.int _) (fun _ _=>rfl)) (aQ aI bO (aB 0 (pv 0)) (aP aG fun _=>.int _) (fun _ _=>rfl)))) (aA (aU bR gE (aQ aI bO (aB 0 (pv 0)) (aP aG fun _=>.int _) (fun _ _=>rfl)) (aQ aI bO (aB 1 (pv 1)) (aP aG fun _=>.int _) (fun _ _=>rfl))) aF aX) aX))))
theorem zAn (F:Fn K mg "_law_minus" lX ["one", "two"] f fd) (B:Bt mg) (KT:Kt K) (C:Ct K mg) (R:Rt K mg) (ET:Et K mg) (c_law_made:CanM P w K mg base k "_law_made" ["top", "bottom"] cW):CanM P w K mg base (k+1) "_law_minus" ["one", "two"] eA:=
 aV F zAa fun cdv A outer s H E G W WR=>(aM (dH (aL W c_law_made rfl (aA (aU kC sG (aU bR gE (aQ aI bO (aB 0 (pv 0)) (aP aG fun _=>.int _) (fun _ _=>rfl)) (aQ aI bO (aB 1 (pv 1)) (aP aG fun _=>.int _) (fun _ _=>rfl))) (aU bR gE (aQ aI bO (aB 1 (pv 1)) (aP aG fun _=>.int _) (fun _ _=>rfl)) (aQ aI bO (aB 0 (pv 0)) (aP aG fun _=>.int _) (fun _ _=>rfl)))) (aA (aU bR gE (aQ aI bO (aB 0 (pv 0)) (aP aG fun _=>.int _) (fun _ _=>rfl)) (aQ aI bO (aB 1 (pv 1)) (aP aG fun _=>.int _) (fun _ _=>rfl))) aF aX) aX))))
theorem zZ (F:Fn K mg "_law_times" lY ["one", "two"] f fd) (B:Bt mg) (KT:Kt K) (C:Ct K mg) (R:Rt K mg) (ET:Et K mg) (c_law_made:CanM P w K mg base k "_law_made" ["top", "bottom"] cW):CanM P w K mg base (k+1) "_law_times" ["one", "two"] dQ:=
 aV F zB fun cdv A outer s H E G W WR=>(aM (dH (aL W c_law_made rfl (aA (aU bR gE (aQ aI bO (aB 0 (pv 0)) (aP aG fun _=>.int _) (fun _ _=>rfl)) (aQ aI bO (aB 1 (pv 1)) (aP aG fun _=>.int _) (fun _ _=>rfl))) (aA (aU bR gE (aQ aI bO (aB 0 (pv 0)) (aP aG fun _=>.int _) (fun _ _=>rfl)) (aQ aI bO (aB 1 (pv 1)) (aP aG fun _=>.int _) (fun _ _=>rfl))) aF aX) aX))))
theorem zJL (F:Fn K mg "plus" zFe ["one", "two"] f fd) (B:Bt mg) (KT:Kt K) (C:Ct K mg) (R:Rt K mg) (ET:Et K mg) (c_made:CanM P w K mg base k "made" ["top", "bottom"] hU):CanM P w K mg base (k+1) "plus" ["one", "two"] lS:=
 aV F zJx fun cdv A outer s H E G W WR=>(aM (dH (aL W c_made rfl (aA (aU fG pL (aU bR gE (aQ aI bO (aB 0 (pv 0)) (aP aG fun _=>.int _) (fun _ _=>rfl)) (aQ aI bO (aB 1 (pv 1)) (aP aG fun _=>.int _) (fun _ _=>rfl))) (aU bR gE (aQ aI bO (aB 1 (pv 1)) (aP aG fun _=>.int _) (fun _ _=>rfl)) (aQ aI bO (aB 0 (pv 0)) (aP aG fun _=>.int _) (fun _ _=>rfl)))) (aA (aU bR gE (aQ aI bO (aB 0 (pv 0)) (aP aG fun _=>.int _) (fun _ _=>rfl)) (aQ aI bO (aB 1 (pv 1)) (aP aG fun _=>.int _) (fun _ _=>rfl))) aF aX) aX))))
theorem zGp (F:Fn K mg "minus" zBc ["one", "two"] f fd) (B:Bt mg) (KT:Kt K) (C:Ct K mg) (R:Rt K mg) (ET:Et K mg) (c_made:CanM P w K mg base k "made" ["top", "bottom"] hU):CanM P w K mg base (k+1) "minus" ["one", "two"] cP:=
 aV F zGF fun cdv A outer s H E G W WR=>(aM (dH (aL W c_made rfl (aA (aU kC sG (aU bR gE (aQ aI bO (aB 0 (pv 0)) (aP aG fun _=>.int _) (fun _ _=>rfl)) (aQ aI bO (aB 1 (pv 1)) (aP aG fun _=>.int _) (fun _ _=>rfl))) (aU bR gE (aQ aI bO (aB 1 (pv 1)) (aP aG fun _=>.int _) (fun _ _=>rfl)) (aQ aI bO (aB 0 (pv 0)) (aP aG fun _=>.int _) (fun _ _=>rfl)))) (aA (aU bR gE (aQ aI bO (aB 0 (pv 0)) (aP aG fun _=>.int _) (fun _ _=>rfl)) (aQ aI bO (aB 1 (pv 1)) (aP aG fun _=>.int _) (fun _ _=>rfl))) aF aX) aX))))
theorem zHi (F:Fn K mg "times" zAW ["one", "two"] f fd) (B:Bt mg) (KT:Kt K) (C:Ct K mg) (R:Rt K mg) (ET:Et K mg) (c_made:CanM P w K mg base k "made" ["top", "bottom"] hU):CanM P w K mg base (k+1) "times" ["one", "two"] dP:=
 aV F zHf fun cdv A outer s H E G W WR=>(aM (dH (aL W c_made rfl (aA (aU bR gE (aQ aI bO (aB 0 (pv 0)) (aP aG fun _=>.int _) (fun _ _=>rfl)) (aQ aI bO (aB 1 (pv 1)) (aP aG fun _=>.int _) (fun _ _=>rfl))) (aA (aU bR gE (aQ aI bO (aB 0 (pv 0)) (aP aG fun _=>.int _) (fun _ _=>rfl)) (aQ aI bO (aB 1 (pv 1)) (aP aG fun _=>.int _) (fun _ _=>rfl))) aF aX) aX))))
theorem zJC (F:Fn K mg "over" zEx ["one", "two"] f fd) (B:Bt mg) (KT:Kt K) (C:Ct K mg) (R:Rt K mg) (ET:Et K mg) (c_made:CanM P w K mg base k "made" ["top", "bottom"] hU):CanM P w K mg base (k+1) "over" ["one", "two"] qV:=
 aV F zIh fun cdv A outer s H E G W WR=>(aM (dH (aL W c_made rfl (aA (aU bR gE (aQ aI bO (aB 0 (pv 0)) (aP aG fun _=>.int _) (fun _ _=>rfl)) (aQ aI bO (aB 1 (pv 1)) (aP aG fun _=>.int _) (fun _ _=>rfl))) (aA (aU bR gE (aQ aI bO (aB 0 (pv 0)) (aP aG fun _=>.int _) (fun _ _=>rfl)) (aQ aI bO (aB 1 (pv 1)) (aP aG fun _=>.int _) (fun _ _=>rfl))) aF aX) aX))))
theorem oQ (F:Fn K mg "refuse_outside" gH ["amount", "most"] f fd) (B:Bt mg) (KT:Kt K) (C:Ct K mg) (R:Rt K mg) (ET:Et K mg) (c_is_outside:CanM P w K mg base k "is_outside" ["amount", "most"] fS):CanM P w K mg base (k+1) "refuse_outside" ["amount", "most"] dE:=
 aV F pQ fun cdv A outer s H E G W WR=>(aM (jY (zHO (aL W c_is_outside rfl (aA (aB 0 (pv 0)) (aA (aB 1 (pv 1)) aF aD) aD))) (aM (gZ W WR R.Outside rfl (aA (aP cH fun _=>.str _) aF bA))) bM))
theorem zC (F:Fn K mg "levels_of" jO ["weights", "claims"] f fd) (B:Bt mg) (KT:Kt K) (C:Ct K mg) (R:Rt K mg) (ET:Et K mg) (c_made:CanM P w K mg base k "made" ["top", "bottom"] hU):CanM P w K mg base (k+1) "levels_of" ["weights", "claims"] dN:=
 aV F zAl fun cdv A outer s H E G W WR=>(aM (gA (sS (N:=["weights", "claims"]) W (by decide +kernel) rfl (sc:=aK jO) rfl rfl (by decide +kernel) (zIl rfl B.zip (aA (aB 1 (pv 1)) (aA (aB 0 (pv 0)) aF aD) aD)) (fun C2 s2 H2 fp2 G W=>(aL W c_made rfl (aA (aB 2 (pv 2)) (aA (aB 3 (pv 3)) aF aD) aD))))))
theorem zAc (F:Fn K mg "_law_value" mM ["line", "x"] f fd) (B:Bt mg) (KT:Kt K) (C:Ct K mg) (R:Rt K mg) (ET:Et K mg) (c_law_less:CanM P w K mg base k "_law_less" ["one", "two"] jA) (c_law_minus:CanM P w K mg base k "_law_minus" ["one", "two"] eA) (c_law_times:CanM P w K mg base k "_law_times" ["one", "two"] dQ) (c_law_plus:CanM P w K mg base k "_law_plus" ["one", "two"] fM):CanM P w K mg base (k+1) "_law_value" ["line", "x"] fH:=
  aV F fZ fun cdv A outer s H E G W WR=>(aH (nU W.own W.calm (zBY rfl B.range (aA (bE aY fA rfl B.len PySem.boot_len (aA (aB 0 (pv 0)) aF aD)) aF aO)) (gM (i:=2) fZ.nd rfl (Or.inl rfl)) cS (aH (jY (tst (eqA W.u) yA (aQ aI bO (aQ aI bO (aB 0 (pv 0)) (aB 2 (pv 2)) (fun _ _=>rfl)) (aP aG fun _=>.int _) (fun _ _=>rfl)) (aB 1 (pv 1)) (bL _)) (aM (dH (aQ aI bO (aQ aI bO (aB 0 (pv 0)) (aB 2 (pv 2)) (fun _ _=>rfl)) (aP aG fun _=>.int _) (fun _ _=>rfl)))) bM)
 (aM (jY (PWd.pt (zIJ (tst zGH zMh (aB 2 (pv 2)) (aP aG fun _=>.int _) (bL _)) (zDL (zHO (aL W c_law_less rfl (aA (aB 1 (pv 1)) (aA (aQ aI bO (aQ aI bO (aB 0 (pv 0)) (aB 2 (pv 2)) (fun _ _=>rfl)) (aP aG fun _=>.int _) (fun _ _=>rfl)) aF aR) aD)))))) (aH (bH (i:=3) fZ.nd rfl (Or.inl rfl) (aL W c_law_minus rfl (aA (aQ aI bO (aQ aI bO (aB 0 (pv 0)) (aB 2 (pv 2)) (fun _ _=>rfl)) (aP aG fun _=>.int _) (fun _ _=>rfl)) (aA (aQ aI bO (aQ aI bO (aB 0 (pv 0)) (aU kC sG (aB 2 (pv 2)) (aP aG fun _=>.int _)) (fun _ _=>rfl)) (aP aG fun _=>.int _) (fun _ _=>rfl)) aF aR) aR)))
 (aH (bH (i:=4) fZ.nd rfl (Or.inl rfl) (aL W c_law_minus rfl (aA (aQ aI bO (aQ aI bO (aB 0 (pv 0)) (aB 2 (pv 2)) (fun _ _=>rfl)) (aP aG fun _=>.int _) (fun _ _=>rfl)) (aA (aQ aI bO (aQ aI bO (aB 0 (pv 0)) (aU kC sG (aB 2 (pv 2)) (aP aG fun _=>.int _)) (fun _ _=>rfl)) (aP aG fun _=>.int _) (fun _ _=>rfl)) aF aR) aR)))
 (aH (bH (i:=5) fZ.nd rfl (Or.inl rfl) (aL W c_law_times rfl (aA (aL W c_law_minus rfl (aA (aB 1 (pv 1)) (aA (aQ aI bO (aQ aI bO (aB 0 (pv 0)) (aU kC sG (aB 2 (pv 2)) (aP aG fun _=>.int _)) (fun _ _=>rfl)) (aP aG fun _=>.int _) (fun _ _=>rfl)) aF aR) aD)) (aA (nV (aA (aQ aI bO (aB 3 (pv 3)) (aP aG fun _=>.int _) (fun _ _=>rfl)) (aA (aQ aI bO (aB 3 (pv 3)) (aP aG fun _=>.int _) (fun _ _=>rfl)) aF aR) aR)) aF zGe) aO)))
 (aM (dH (aL W c_law_plus rfl (aA (aQ aI bO (aQ aI bO (aB 0 (pv 0)) (aU kC sG (aB 2 (pv 2)) (aP aG fun _=>.int _)) (fun _ _=>rfl)) (aP aG fun _=>.int _) (fun _ _=>rfl)) (aA (aL W c_law_times rfl (aA (aB 5 (pv 5)) (aA (aB 4 (pv 4)) aF aD) aD)) aF aO) aR))))))) bM))))
 (aM (dH (aQ aI bO (aQ aI bO (aB 0 (pv 0)) (rL (aP aG fun _=>.int _)) (fun _ _=>rfl)) (aP aG fun _=>.int _) (fun _ _=>rfl)))))
theorem yQ (F:Fn K mg "_law_place" mC ["cell", "line"] f fd) (B:Bt mg) (KT:Kt K) (C:Ct K mg) (R:Rt K mg) (ET:Et K mg) (c_law_times:CanM P w K mg base k "_law_times" ["one", "two"] dQ) (c_law_made:CanM P w K mg base k "_law_made" ["top", "bottom"] cW):CanM P w K mg base (k+1) "_law_place" ["cell", "line"] iF:=
  aV F fY fun cdv A outer s H E G W WR=>(aH (bH (i:=2) fY.nd rfl (Or.inl rfl) (aU bZ gX (aU fG pL (aU bR gE (aB 0 (pv 0)) (aP aG fun _=>.int _)) (aP aG fun _=>.int _)) (aP aG fun _=>.int _)))
 (aH (bH (i:=3) fY.nd rfl (Or.inl rfl) (aU fG pL (aP aG fun _=>.int _) (aU bZ gX (aU cX jU (aB 2 (pv 2)) (aP aG fun _=>.int _)) (aP aG fun _=>.int _))))
 (aH (bH (i:=4) fY.nd rfl (Or.inl rfl) (aL W c_law_times rfl (aA (aQ aI bO (aQ aI bO (aB 1 (pv 1)) (rL (aP aG fun _=>.int _)) (fun _ _=>rfl)) (aP aG fun _=>.int _) (fun _ _=>rfl)) (aA (aL W c_law_made rfl (aA (aU bZ gX (aU cX jU (aB 2 (pv 2)) (aP aG fun _=>.int _)) (aU fG pL (aB 3 (pv 3)) (aP aG fun _=>.int _))) (aA (aB 3 (pv 3)) aF aD) aX)) aF aO) aR)))
 (aH (jY (tst (eqA W.u) yA (aU bZ gX (aU cX jU (aB 2 (pv 2)) (aP aG fun _=>.int _)) (aP aG fun _=>.int _)) (aP aG fun _=>.int _) (bL _)) (aM (bH (i:=4) fY.nd rfl (Or.inl rfl) (aQ aI bO (aQ aI bO (aB 1 (pv 1)) (aU bZ gX (aU cX jU (aB 2 (pv 2)) (aP aG fun _=>.int _)) (bE aY fA rfl B.len PySem.boot_len (aA (aB 1 (pv 1)) aF aD))) (fun _ _=>rfl)) (aP aG fun _=>.int _) (fun _ _=>rfl)))) bM)
 (aM (dH (aB 4 (pv 4))))))))
theorem xM (F:Fn K mg "is_between" kG ["ahead", "point", "later"] f fd) (B:Bt mg) (KT:Kt K) (C:Ct K mg) (R:Rt K mg) (ET:Et K mg) (c_minus:CanM P w K mg base k "minus" ["one", "two"] cP) (c_times:CanM P w K mg base k "times" ["one", "two"] dP):CanM P w K mg base (k+1) "is_between" ["ahead", "point", "later"] fX:=
  aV F eR fun cdv A outer s H E G W WR=>(aH (bH (i:=3) eR.nd rfl (Or.inl rfl) (aL W c_minus rfl (aA (aQ aI bO (aB 1 (pv 1)) (bP rfl C.UP) (fun _ _=>rfl)) (aA (aQ aI bO (aB 0 (pv 0)) (bP rfl C.UP) (fun _ _=>rfl)) aF aR) aR)))
 (aH (bH (i:=4) eR.nd rfl (Or.inl rfl) (aL W c_minus rfl (aA (aQ aI bO (aB 2 (pv 2)) (bP rfl C.UP) (fun _ _=>rfl)) (aA (aQ aI bO (aB 1 (pv 1)) (bP rfl C.UP) (fun _ _=>rfl)) aF aR) aR)))
 (aH (bH (i:=5) eR.nd rfl (Or.inl rfl) (aL W c_minus rfl (aA (aQ aI bO (aB 1 (pv 1)) (bP rfl C.ACROSS) (fun _ _=>rfl)) (aA (aQ aI bO (aB 0 (pv 0)) (bP rfl C.ACROSS) (fun _ _=>rfl)) aF aR) aR)))
 (aH (bH (i:=6) eR.nd rfl (Or.inl rfl) (aL W c_minus rfl (aA (aQ aI bO (aB 2 (pv 2)) (bP rfl C.ACROSS) (fun _ _=>rfl)) (aA (aQ aI bO (aB 1 (pv 1)) (bP rfl C.ACROSS) (fun _ _=>rfl)) aF aR) aR)))
 (aM (dH (zCC (eqA W.u) yA (aL W c_times rfl (aA (aB 3 (pv 3)) (aA (aB 6 (pv 6)) aF aD) aD)) (aL W c_times rfl (aA (aB 4 (pv 4)) (aA (aB 5 (pv 5)) aF aD) aD)) (bL _))))))))
theorem zFg (F:Fn K mg "turned" qR ["line"] f fd) (B:Bt mg) (KT:Kt K) (C:Ct K mg) (R:Rt K mg) (ET:Et K mg) (c_minus:CanM P w K mg base k "minus" ["one", "two"] cP):CanM P w K mg base (k+1) "turned" ["line"] oC:=
  aV F rK fun cdv A outer s H E G W WR=>(aH (bH (i:=1) rK.nd rfl (Or.inr rfl) (aQ aI bO (aB 0 (pv 0)) (rL (aP aG fun _=>.int _)) (fun _ _=>rfl)))
 (aM (dH (zAo oI zHr rfl B.tuple boot_tuple (aA (PEf.d (iR W rK.nd rfl (sc:=aK qR) rfl rfl (by decide +kernel) (zNa rfl B.reversed (aB 0 (pv 0))) (fun C2 s2 H2 fp2 G W=>⟨nX,(nV (aA (aL W c_minus rfl (aA (aQ aI bO (aB 1 (pv 1)) (bP rfl C.ACROSS) (fun _ _=>rfl)) (aA (aQ aI bO (aB 2 (pv 2)) (bP rfl C.ACROSS) (fun _ _=>rfl)) aF aR) aR)) (aA (aL W c_minus rfl (aA (aQ aI bO (aB 1 (pv 1)) (bP rfl C.UP) (fun _ _=>rfl)) (aA (aQ aI bO (aB 2 (pv 2)) (bP rfl C.UP) (fun _ _=>rfl)) aF aR) aR)) aF aO) aO))⟩))) aF)))))
theorem zAq (F:Fn K mg "row_dealt" mV ["claims", "catch"] f fd) (B:Bt mg) (KT:Kt K) (C:Ct K mg) (R:Rt K mg) (ET:Et K mg) (c_lesser:CanM P w K mg base k "lesser" ["one", "two"] jF) (c_minus:CanM P w K mg base k "minus" ["one", "two"] cP) (c_whole:CanM P w K mg base k "whole" ["number"] bN):CanM P w K mg base (k+1) "row_dealt" ["claims", "catch"] fJ:=
  aV F eN fun cdv A outer s H E G W WR=>(aH (bH (i:=2) eN.nd rfl (Or.inl rfl) (aB 1 (pv 1)))
 (aH (zAr (i:=3) eN.nd rfl (Or.inl rfl) (bT aF))
 (aH (nU W.own W.calm (lN (aB 0 (pv 0))) (gM (i:=4) eN.nd rfl (Or.inl rfl)) cS (aH (bH (i:=5) eN.nd rfl (Or.inl rfl) (aL W c_lesser rfl (aA (aB 2 (pv 2)) (aA (aL W c_whole rfl (aA (aB 4 (pv 4)) aF aD)) aF aO) aD)))
 (aH (zBy (i:=3) (pv 3) (aB 5 (pv 5)))
 (aM (bH (i:=2) eN.nd rfl (Or.inl rfl) (aL W c_minus rfl (aA (aB 2 (pv 2)) (aA (aB 5 (pv 5)) aF aD) aD)))))))
 (aM (jT 3 (pv 3))))))
theorem vG (F:Fn K mg "even_dealt" kH ["weights", "claims", "catch"] f fd) (B:Bt mg) (KT:Kt K) (C:Ct K mg) (R:Rt K mg) (ET:Et K mg) (c_ranked:CanR P w K mg base k iM) (c_levels_of:CanM P w K mg base k "levels_of" ["weights", "claims"] dN) (c_over:CanM P w K mg base k "over" ["one", "two"] qV) (c_lesser:CanM P w K mg base k "lesser" ["one", "two"] jF) (c_minus:CanM P w K mg base k "minus" ["one", "two"] cP) (c_times:CanM P w K mg base k "times" ["one", "two"] dP) (c_whole:CanM P w K mg base k "whole" ["number"] bN):CanM P w K mg base (k+1) "even_dealt" ["weights", "claims", "catch"] cZ:=
  aV F cM fun cdv A outer s H E G W WR=>(aH (bH (i:=3) cM.nd rfl (Or.inl rfl) (aB 2 (pv 2)))
 (aH (bH (i:=4) cM.nd rfl (Or.inl rfl) (bE (lE W.calm) uU rfl B.sum jC (aA (aB 0 (pv 0)) aF aD)))
 (aH (zAr (i:=5) cM.nd rfl (Or.inl rfl) (zCo (bT (aA (bP rfl C.NOUGHT) aF aD)) (bE aY fA rfl B.len PySem.boot_len (aA (aB 1 (pv 1)) aF aD))))
 (zFq W c_ranked zKG zHV rfl (aA (PEf.d (cG W c_levels_of rfl (aA (aB 0 (pv 0)) (aA (aB 1 (pv 1)) aF aD) aD))) aF aO) (gM (i:=6) cM.nd rfl (Or.inl rfl)) cS (aH (bH (i:=7) cM.nd rfl (Or.inl rfl) (aL W c_over rfl (aA (aL W c_times rfl (aA (aB 3 (pv 3)) (aA (aL W c_whole rfl (aA (aQ aI bO (aB 0 (pv 0)) (aB 6 (pv 6)) (fun _ _=>rfl)) aF aR)) aF aO) aD)) (aA (aL W c_whole rfl (aA (aB 4 (pv 4)) aF aD)) aF aO) aO)))
 (aH (zMP (i:=5) (pv 5) (aB 6 (pv 6)) (aL W c_lesser rfl (aA (aB 7 (pv 7)) (aA (aL W c_whole rfl (aA (aQ aI bO (aB 1 (pv 1)) (aB 6 (pv 6)) (fun _ _=>rfl)) aF aR)) aF aO) aD)))
 (aH (bH (i:=3) cM.nd rfl (Or.inl rfl) (PEd.frz (aL W c_minus rfl (aA (aB 3 (pv 3)) (aA (aQ aI bO (aB 5 (pv 5)) (aB 6 (pv 6)) (fun _ _=>rfl)) aF aR) aD))))
 (aM (zHb (i:=4) cM.nd rfl (Or.inl rfl) (aQ aI bO (aB 0 (pv 0)) (aB 6 (pv 6)) (fun _ _=>rfl)) zHQ zEu zBT))))) (aM (jT 5 (pv 5)))))))
theorem vI (F:Fn K mg "part_dealt" iQ ["claims", "catch"] f fd) (B:Bt mg) (KT:Kt K) (C:Ct K mg) (R:Rt K mg) (ET:Et K mg) (c_over:CanM P w K mg base k "over" ["one", "two"] qV) (c_whole:CanM P w K mg base k "whole" ["number"] bN) (c_times:CanM P w K mg base k "times" ["one", "two"] dP):CanM P w K mg base (k+1) "part_dealt" ["claims", "catch"] eH:=
  aV F gU fun cdv A outer s H E G W WR=>(aH (bH (i:=2) gU.nd rfl (Or.inl rfl) (bE (lE W.calm) uU rfl B.sum jC (aA (aB 0 (pv 0)) aF aD)))
 (aH (jY (tst (eqA W.u) yA (aB 2 (pv 2)) (aP aG fun _=>.int _) (bL _)) (aM (gA (zCo (bT (aA (bP rfl C.NOUGHT) aF aD)) (bE aY fA rfl B.len PySem.boot_len (aA (aB 0 (pv 0)) aF aD))))) bM)
 (aH (bH (i:=3) gU.nd rfl (Or.inr rfl) (aL W c_over rfl (aA (aB 1 (pv 1)) (aA (aL W c_whole rfl (aA (aB 2 (pv 2)) aF aD)) aF aO) aD)))
 (aM (gA (iR W gU.nd rfl (sc:=aK iQ) rfl rfl (by decide +kernel) (lN (aB 0 (pv 0))) (fun C2 s2 H2 fp2 G W=>⟨nX,(aL W c_times rfl (aA (aB 3 (pv 3)) (aA (aL W c_whole rfl (aA (aB 4 (pv 4)) aF aD)) aF aO) aD))⟩)))))))
theorem uM (F:Fn K mg "even_joints" jG ["weights", "claims"] f fd) (B:Bt mg) (KT:Kt K) (C:Ct K mg) (R:Rt K mg) (ET:Et K mg) (c_levels_of:CanM P w K mg base k "levels_of" ["weights", "claims"] dN) (c_ranked:CanR P w K mg base k iM) (c_plus:CanM P w K mg base k "plus" ["one", "two"] lS) (c_whole:CanM P w K mg base k "whole" ["number"] bN) (c_times:CanM P w K mg base k "times" ["one", "two"] dP):CanM P w K mg base (k+1) "even_joints" ["weights", "claims"] dC:=
  aV F cA fun cdv A outer s H E G W WR=>(aH (bH (i:=2) cA.nd rfl (Or.inl rfl) (aP aG fun _=>.int _))
 (aH (bH (i:=3) cA.nd rfl (Or.inl rfl) (bE (lE W.calm) uU rfl B.sum jC (aA (aB 0 (pv 0)) aF aD)))
 (aH (bH (i:=4) cA.nd rfl (Or.inl rfl) (PEf.d (cG W c_levels_of rfl (aA (aB 0 (pv 0)) (aA (aB 1 (pv 1)) aF aD) aD))))
 (aH (zAr (i:=5) cA.nd rfl (Or.inl rfl) (bT (aA (bP rfl C.NOUGHT) aF aD)))
 (zFq W c_ranked zKG zHV rfl (aA (aB 4 (pv 4)) aF aD) (gM (i:=6) cA.nd rfl (Or.inl rfl)) cS (aH (zBy (i:=5) (pv 5) (aL W c_plus rfl (aA (aL W c_whole rfl (aA (aB 2 (pv 2)) aF aD)) (aA (aL W c_times rfl (aA (aQ aI bO (aB 4 (pv 4)) (aB 6 (pv 6)) (fun _ _=>rfl)) (aA (aL W c_whole rfl (aA (aB 3 (pv 3)) aF aD)) aF aO) aR)) aF aO) aO)))
 (aH (zHb (i:=2) cA.nd rfl (Or.inl rfl) (aQ aI bO (aB 1 (pv 1)) (aB 6 (pv 6)) (fun _ _=>rfl)) zHy zDT zCK)
 (aM (zHb (i:=3) cA.nd rfl (Or.inl rfl) (aQ aI bO (aB 0 (pv 0)) (aB 6 (pv 6)) (fun _ _=>rfl)) zHQ zEu zBT)))) (aM (jT 5 (pv 5))))))))
theorem zAM (F:Fn K mg "mirrored" lC ["joints", "most"] f fd) (B:Bt mg) (KT:Kt K) (C:Ct K mg) (R:Rt K mg) (ET:Et K mg) (c_minus:CanM P w K mg base k "minus" ["one", "two"] cP):CanM P w K mg base (k+1) "mirrored" ["joints", "most"] fI:=
 aV F sA fun cdv A outer s H E G W WR=>(aM (gA (iR W sA.nd rfl (sc:=aK lC) rfl rfl (by decide +kernel) (zLC rfl B.reversed (aB 0 (pv 0))) (fun C2 s2 H2 fp2 G W=>⟨nX,(aL W c_minus rfl (aA (aB 1 (pv 1)) (aA (aB 2 (pv 2)) aF aD) aD))⟩))))
theorem zDa (F:Fn K mg "line_of" sB ["points"] f fd) (B:Bt mg) (KT:Kt K) (C:Ct K mg) (R:Rt K mg) (ET:Et K mg) (c_refuse_bad:CanM P w K mg base k "refuse_bad" ["points"] fV) (c_is_between:CanM P w K mg base k "is_between" ["ahead", "point", "later"] fX):CanM P w K mg base (k+1) "line_of" ["points"] kY:=
  aV F pA fun cdv A outer s H E G W WR=>(aH (pU (aL W c_refuse_bad rfl (aA (aB 0 (pv 0)) aF aD)))
 (aH (zAr (i:=1) pA.nd rfl (Or.inl rfl) (bT aF))
 (aH (nU W.own W.calm (lN (aB 0 (pv 0))) (gM (i:=2) pA.nd rfl (Or.inl rfl)) cS (aH (jY (PTd.frz (PWd.pt (zIJ (tst zGH zMh (bE aY fA rfl B.len PySem.boot_len (aA (aB 1 (pv 1)) aF aD)) (aP aG fun _=>.int _) (bL _)) (zDL (zHO (aL W c_is_between rfl (aA (aQ aI bO (aB 1 (pv 1)) (rL (aP aG fun _=>.int _)) (fun _ _=>rfl)) (aA (aQ aI bO (aB 1 (pv 1)) (rL (aP aG fun _=>.int _)) (fun _ _=>rfl)) (aA (aB 2 (pv 2)) aF aD) aR) aR))))))) (aM (zML (i:=1) (pv 1))) bM)
 (aM (zBy (i:=1) (pv 1) (aB 2 (pv 2))))))
 (aM (dH (zAo oI zHr rfl B.tuple boot_tuple (aA (aB 1 (pv 1)) aF aD)))))))
theorem xX (F:Fn K mg "half_dealt" iL ["claims", "catch"] f fd) (B:Bt mg) (KT:Kt K) (C:Ct K mg) (R:Rt K mg) (ET:Et K mg) (c_times:CanM P w K mg base k "times" ["one", "two"] dP) (c_even_dealt:CanM P w K mg base k "even_dealt" ["weights", "claims", "catch"] cZ) (c_plus:CanM P w K mg base k "plus" ["one", "two"] lS):CanM P w K mg base (k+1) "half_dealt" ["claims", "catch"] eI:=
  aV F jE fun cdv A outer s H E G W WR=>(aH (bH (i:=2) jE.nd rfl (Or.inl rfl) (PEf.d (zCo (bT (aA (aP aG fun _=>.int _) aF bA)) (bE aY fA rfl B.len PySem.boot_len (aA (aB 0 (pv 0)) aF aD)))))
 (aM (gA (iR W jE.nd rfl (sc:=aK iL) rfl rfl (by decide +kernel) (lN (PEf.d (cG W c_even_dealt rfl (aA (aB 2 (pv 2)) (aA (aB 0 (pv 0)) (aA (aL W c_plus rfl (aA (aB 1 (pv 1)) (aA (aB 1 (pv 1)) aF aD) aD)) aF aO) aD) aD)))) (fun C2 s2 H2 fp2 G W=>⟨nX,(aL W c_times rfl (aA (aB 3 (pv 3)) (aA (bP rfl C.HALF) aF aD) aD))⟩)))))
theorem zDj (F:Fn K mg "line_at" nT ["joints", "dealings", "spot"] f fd) (B:Bt mg) (KT:Kt K) (C:Ct K mg) (R:Rt K mg) (ET:Et K mg) (c_line_of:CanM P w K mg base k "line_of" ["points"] kY):CanM P w K mg base (k+1) "line_at" ["joints", "dealings", "spot"] kD:=
 aV F zDr fun cdv A outer s H E G W WR=>(aM (dH (aL W c_line_of rfl (aA (PEf.d (sS (N:=["joints", "dealings", "spot"]) W (by decide +kernel) rfl (sc:=aK nT) rfl rfl (by decide +kernel) (zIl rfl B.zip (aA (aB 0 (pv 0)) (aA (aB 1 (pv 1)) aF aD) aD)) (fun C2 s2 H2 fp2 G W=>(nV (aA (aB 3 (pv 3)) (aA (aQ aI bO (aB 4 (pv 4)) (aB 2 (pv 2)) (fun _ _=>rfl)) aF aR) aD))))) aF))))
theorem zAm {r:Mir} (F:Fn K mg "joints_of" hJ ["way", "weights", "claims"] f fd) (B:Bt mg) (KT:Kt K) (C:Ct K mg) (R:Rt K mg) (ET:Et K mg) (c_whole:CanM P w K mg base k "whole" ["number"] bN) (c_mirrored:CanM P w K mg base k "mirrored" ["joints", "most"] fI) (c_row_joints:CanM P w K mg base k "row_joints" ["claims"] eK) (c_even_joints:CanM P w K mg base k "even_joints" ["weights", "claims"] dC) (c_times:CanM P w K mg base k "times" ["one", "two"] dP) (c_contrary_way:CanM P w K mg base k "contrary_way" ["way"] cB) (c_joints_of:CanM P w K mg base k "joints_of" ["way", "weights", "claims"] r):CanM P w K mg base (k+1) "joints_of" ["way", "weights", "claims"] (bW r):=
  aV F fT fun cdv A outer s H E G W WR=>(aH (bH (i:=3) fT.nd rfl (Or.inl rfl) (aL W c_whole rfl (aA (bE (lE W.calm) uU rfl B.sum jC (aA (aB 2 (pv 2)) aF aD)) aF aO)))
 (aH (jY (tst (eqA W.u) yA (aB 0 (pv 0)) (aP cH fun _=>.str _) (bL _)) (aM (gA (cG W c_row_joints rfl (aA (aB 2 (pv 2)) aF aD)))) bM)
 (aH (jY (tst (eqA W.u) yA (aB 0 (pv 0)) (aP cH fun _=>.str _) (bL _)) (aM (gA (cG W c_even_joints rfl (aA (aB 1 (pv 1)) (aA (aB 2 (pv 2)) aF aD) aD)))) bM)
 (aH (jY (tst (eqA W.u) yA (aB 0 (pv 0)) (aP cH fun _=>.str _) (bL _)) (aM (gA (bT (aA (bP rfl C.NOUGHT) (aA (aB 3 (pv 3)) aF aD) aD)))) bM)
 (aH (jY (tst (eqA W.u) yA (aB 0 (pv 0)) (aP cH fun _=>.str _) (bL _)) (aH (zKz (i:=4) fT.nd rfl (Or.inl rfl) (PCf.d (zHj W fT.nd rfl (sc:=aK hJ) rfl rfl (by decide +kernel) (lN (PEf.d (cG W c_even_joints rfl (aA (PEf.d (zCo (bT (aA (aP aG fun _=>.int _) aF bA)) (bE aY fA rfl B.len PySem.boot_len (aA (aB 2 (pv 2)) aF aD)))) (aA (aB 2 (pv 2)) aF aD) aX)))) (fun C2 s2 H2 fp2 G W=>⟨nX,(aL W c_times rfl (aA (aB 5 (pv 5)) (aA (bP rfl C.HALF) aF aD) aD))⟩))) rfl)
 (aM (gA (nD (aB 4 (pv 4)) (PEf.d (cG W c_mirrored rfl (aA (aB 4 (pv 4)) (aA (aB 3 (pv 3)) aF aD) aD))))))) bM)
 (aM (gA (cG W c_mirrored rfl (aA (PEf.d (cG W c_joints_of rfl (aA (aL W c_contrary_way rfl (aA (aB 0 (pv 0)) aF aD)) (aA (aB 1 (pv 1)) (aA (aB 2 (pv 2)) aF aD) aD) aO))) (aA (aB 3 (pv 3)) aF aD) aO)))))))))
theorem pZ (F:Fn K mg "joints_of" hJ ["way", "weights", "claims"] f fd) (B:Bt mg) (KT:Kt K) (C:Ct K mg) (R:Rt K mg) (ET:Et K mg) (c_whole:CanM P w K mg base k "whole" ["number"] bN) (c_mirrored:CanM P w K mg base k "mirrored" ["joints", "most"] fI) (c_row_joints:CanM P w K mg base k "row_joints" ["claims"] eK) (c_even_joints:CanM P w K mg base k "even_joints" ["weights", "claims"] dC) (c_times:CanM P w K mg base k "times" ["one", "two"] dP) (c_contrary_way:CanM P w K mg base k "contrary_way" ["way"] cB):∀ n:Nat,CanM P w K mg base (k+1+n) "joints_of" ["way", "weights", "claims"] (bI n)
 | 0=>aV F fT fun cdv A outer s H E G W WR=>zKI
 | n+1=>zAm (k:=k+1+n) F B KT C R ET (c_whole:=c_whole.mono (by omega)) (c_mirrored:=c_mirrored.mono (by omega)) (c_row_joints:=c_row_joints.mono (by omega)) (c_even_joints:=c_even_joints.mono (by omega)) (c_times:=c_times.mono (by omega)) (c_contrary_way:=c_contrary_way.mono (by omega)) (c_joints_of:=pZ F B KT C R ET (c_whole:=c_whole) (c_mirrored:=c_mirrored) (c_row_joints:=c_row_joints) (c_even_joints:=c_even_joints) (c_times:=c_times) (c_contrary_way:=c_contrary_way) n)
theorem qL {r:Mir} (F:Fn K mg "rightly_dealt" dO ["way", "weights", "claims", "catch"] f fd) (B:Bt mg) (KT:Kt K) (C:Ct K mg) (R:Rt K mg) (ET:Et K mg) (c_whole:CanM P w K mg base k "whole" ["number"] bN) (c_row_dealt:CanM P w K mg base k "row_dealt" ["claims", "catch"] fJ) (c_even_dealt:CanM P w K mg base k "even_dealt" ["weights", "claims", "catch"] cZ) (c_part_dealt:CanM P w K mg base k "part_dealt" ["claims", "catch"] eH) (c_half_dealt:CanM P w K mg base k "half_dealt" ["claims", "catch"] eI) (c_minus:CanM P w K mg base k "minus" ["one", "two"] cP) (c_less:CanM P w K mg base k "less" ["one", "two"] gK) (c_plus:CanM P w K mg base k "plus" ["one", "two"] lS) (c_rightly_dealt:CanM P w K mg base k "rightly_dealt" ["way", "weights", "claims", "catch"] r):CanM P w K mg base (k+1) "rightly_dealt" ["way", "weights", "claims", "catch"] (aS r):=
  aV F dZ fun cdv A outer s H E G W WR=>(aH (bH (i:=4) dZ.nd rfl (Or.inl rfl) (aL W c_whole rfl (aA (bE (lE W.calm) uU rfl B.sum jC (aA (aB 2 (pv 2)) aF aD)) aF aO)))
 (aH (jY (tst (eqA W.u) yA (aB 0 (pv 0)) (aP cH fun _=>.str _) (bL _)) (aM (gA (cG W c_row_dealt rfl (aA (aB 2 (pv 2)) (aA (aB 3 (pv 3)) aF aD) aD)))) bM)
 (aH (jY (tst (eqA W.u) yA (aB 0 (pv 0)) (aP cH fun _=>.str _) (bL _)) (aM (gA (cG W c_even_dealt rfl (aA (aB 1 (pv 1)) (aA (aB 2 (pv 2)) (aA (aB 3 (pv 3)) aF aD) aD) aD)))) bM)
 (aH (jY (tst (eqA W.u) yA (aB 0 (pv 0)) (aP cH fun _=>.str _) (bL _)) (aM (gA (cG W c_part_dealt rfl (aA (aB 2 (pv 2)) (aA (aB 3 (pv 3)) aF aD) aD)))) bM)
 (aH (jY (PWd.pt (zIJ (tst (eqA W.u) yA (aB 0 (pv 0)) (aP cH fun _=>.str _) (bL _)) (zDL (zNJ (zHO (aL W c_less rfl (aA (aB 4 (pv 4)) (aA (aL W c_plus rfl (aA (aB 3 (pv 3)) (aA (aB 3 (pv 3)) aF aD) aD)) aF aO) aD))))))) (aM (gA (cG W c_half_dealt rfl (aA (aB 2 (pv 2)) (aA (aB 3 (pv 3)) aF aD) aD)))) bM)
 (aH (bH (i:=5) dZ.nd rfl (Or.inl rfl) (PEf.d (cG W c_rightly_dealt rfl (aA (zHE C.CONTRARY.choose_spec rfl (aB 0 (pv 0)) (fun _ _=>rfl)) (aA (aB 1 (pv 1)) (aA (aB 2 (pv 2)) (aA (aL W c_minus rfl (aA (aB 4 (pv 4)) (aA (aB 3 (pv 3)) aF aD) aD)) aF aO) aD) aD) aR))))
 (aM (gA (sS (N:=["way", "weights", "claims", "catch", "most", "lacking"]) W (by decide +kernel) rfl (sc:=aK dO) rfl rfl (by decide +kernel) (zIl rfl B.zip (aA (aB 2 (pv 2)) (aA (aB 5 (pv 5)) aF aD) aD)) (fun C2 s2 H2 fp2 G W=>(aL W c_minus rfl (aA (aL W c_whole rfl (aA (aB 6 (pv 6)) aF aD)) (aA (aB 7 (pv 7)) aF aD) aO))))))))))))
theorem jW (F:Fn K mg "rightly_dealt" dO ["way", "weights", "claims", "catch"] f fd) (B:Bt mg) (KT:Kt K) (C:Ct K mg) (R:Rt K mg) (ET:Et K mg) (c_whole:CanM P w K mg base k "whole" ["number"] bN) (c_row_dealt:CanM P w K mg base k "row_dealt" ["claims", "catch"] fJ) (c_even_dealt:CanM P w K mg base k "even_dealt" ["weights", "claims", "catch"] cZ) (c_part_dealt:CanM P w K mg base k "part_dealt" ["claims", "catch"] eH) (c_half_dealt:CanM P w K mg base k "half_dealt" ["claims", "catch"] eI) (c_minus:CanM P w K mg base k "minus" ["one", "two"] cP) (c_less:CanM P w K mg base k "less" ["one", "two"] gK) (c_plus:CanM P w K mg base k "plus" ["one", "two"] lS):∀ n:Nat,CanM P w K mg base (k+1+n) "rightly_dealt" ["way", "weights", "claims", "catch"] (aN n)
 | 0=>aV F dZ fun cdv A outer s H E G W WR=>zKI
 | n+1=>qL (k:=k+1+n) F B KT C R ET (c_whole:=c_whole.mono (by omega)) (c_row_dealt:=c_row_dealt.mono (by omega)) (c_even_dealt:=c_even_dealt.mono (by omega)) (c_part_dealt:=c_part_dealt.mono (by omega)) (c_half_dealt:=c_half_dealt.mono (by omega)) (c_minus:=c_minus.mono (by omega)) (c_less:=c_less.mono (by omega)) (c_plus:=c_plus.mono (by omega)) (c_rightly_dealt:=jW F B KT C R ET (c_whole:=c_whole) (c_row_dealt:=c_row_dealt) (c_even_dealt:=c_even_dealt) (c_part_dealt:=c_part_dealt) (c_half_dealt:=c_half_dealt) (c_minus:=c_minus) (c_less:=c_less) (c_plus:=c_plus) n)
theorem zGM (F:Fn K mg "dealt" zBf ["way", "weights", "claims", "catch"] f fd) (B:Bt mg) (KT:Kt K) (C:Ct K mg) (R:Rt K mg) (ET:Et K mg) (c_looked:CanM P w K mg base k "looked" ["way", "weights", "claims"] cN) (c_refuse_outside:CanM P w K mg base k "refuse_outside" ["amount", "most"] dE) (c_rightly_dealt:CanM P w K mg base k "rightly_dealt" ["way", "weights", "claims", "catch"] (aN 2)) (c_whole:CanM P w K mg base k "whole" ["number"] bN):CanM P w K mg base (k+1) "dealt" ["way", "weights", "claims", "catch"] sR:=
  aV F zGY fun cdv A outer s H E G W WR=>(aH (pU (aL W c_looked rfl (aA (aB 0 (pv 0)) (aA (aB 1 (pv 1)) (aA (aB 2 (pv 2)) aF aD) aD) aD)))
 (aH (pU (aL W c_refuse_outside rfl (aA (aB 3 (pv 3)) (aA (aL W c_whole rfl (aA (bE (lE W.calm) uU rfl B.sum jC (aA (aB 2 (pv 2)) aF aD)) aF aO)) aF aO) aD)))
 (aM (gA (cG W c_rightly_dealt rfl (aA (aB 0 (pv 0)) (aA (aB 1 (pv 1)) (aA (aB 2 (pv 2)) (aA (aB 3 (pv 3)) aF aD) aD) aD) aD))))))
theorem zD (F:Fn K mg "way_lines" iA ["way", "weights", "claims"] f fd) (B:Bt mg) (KT:Kt K) (C:Ct K mg) (R:Rt K mg) (ET:Et K mg) (c_looked:CanM P w K mg base k "looked" ["way", "weights", "claims"] cN) (c_without_doubles:CanM P w K mg base k "without_doubles" ["joints"] cU) (c_joints_of:CanM P w K mg base k "joints_of" ["way", "weights", "claims"] (bI 2)) (c_rightly_dealt:CanM P w K mg base k "rightly_dealt" ["way", "weights", "claims", "catch"] (aN 2)) (c_line_at:CanM P w K mg base k "line_at" ["joints", "dealings", "spot"] kD):CanM P w K mg base (k+1) "way_lines" ["way", "weights", "claims"] cO:=
  aV F gD fun cdv A outer s H E G W WR=>(aH (pU (aL W c_looked rfl (aA (aB 0 (pv 0)) (aA (aB 1 (pv 1)) (aA (aB 2 (pv 2)) aF aD) aD) aD)))
 (aH (bH (i:=3) gD.nd rfl (Or.inr rfl) (PEf.d (cG W c_without_doubles rfl (aA (PEf.d (cG W c_joints_of rfl (aA (aB 0 (pv 0)) (aA (aB 1 (pv 1)) (aA (aB 2 (pv 2)) aF aD) aD) aD))) aF aO))))
 (aH (bH (i:=4) gD.nd rfl (Or.inr rfl) (PEf.d (iR W gD.nd rfl (sc:=aK iA) rfl rfl (by decide +kernel) (lN (aB 3 (pv 3))) (fun C2 s2 H2 fp2 G W=>⟨nX,(PEf.d (cG W c_rightly_dealt rfl (aA (aB 0 (pv 0)) (aA (aB 1 (pv 1)) (aA (aB 2 (pv 2)) (aA (aB 5 (pv 5)) aF aD) aD) aD) aD)))⟩))))
 (aM (gA (iR W gD.nd rfl (sc:=aK iA) rfl rfl (by decide +kernel) (zBY rfl B.range (aA (bE aY fA rfl B.len PySem.boot_len (aA (aB 2 (pv 2)) aF aD)) aF aO)) (fun C2 s2 H2 fp2 G W=>⟨nX,(aL W c_line_at rfl (aA (aB 3 (pv 3)) (aA (aB 4 (pv 4)) (aA (aB 5 (pv 5)) aF aD) aD) aD))⟩)))))))
theorem uN (F:Fn K mg "_law_refused" jR ["way", "weights", "claims"] f fd) (B:Bt mg) (KT:Kt K) (C:Ct K mg) (R:Rt K mg) (ET:Et K mg) (c_way_lines:CanM P w K mg base k "way_lines" ["way", "weights", "claims"] cO):CanM P w K mg base (k+1) "_law_refused" ["way", "weights", "claims"] bG:=
  aV F fQ fun cdv A outer s H E G W WR=>(aH (bH (i:=3) fQ.nd rfl (Or.inl rfl) (PEf.d (bT aF)))
 (aH (zNn W zEW ET.cat rfl fQ.nd (i:=4) rfl rfl (zMr (zKD W c_way_lines rfl (aA (aB 0 (pv 0)) (aA (aB 1 (pv 1)) (aA (aB 2 (pv 2)) aF aD) aD) aD))) (fun ea W=>(aM (bH (i:=3) fQ.nd rfl (Or.inl rfl) (PEf.d (bT (aA (zBN ET.ek rfl rfl B.isinstance (pv 4) rfl) (aA (zBN ET.ek rfl rfl B.isinstance (pv 4) rfl) (aA (zBN ET.ek rfl rfl B.isinstance (pv 4) rfl) (aA (zBN ET.ek rfl rfl B.isinstance (pv 4) rfl) aF aO) aO) aO) aO)))))))
 (aM (dH (aB 3 (pv 3))))))
theorem nI (F:Fn K mg "_law_all_refused" fK ["way", "weights", "claims", "cell"] f fd) (B:Bt mg) (KT:Kt K) (C:Ct K mg) (R:Rt K mg) (ET:Et K mg) (c_law_refused:CanM P w K mg base k "_law_refused" ["way", "weights", "claims"] bG):CanM P w K mg base (k+1) "_law_all_refused" ["way", "weights", "claims", "cell"] cT:=
  aV F cK fun cdv A outer s H E G W WR=>(aH (bH (i:=4) cK.nd rfl (Or.inl rfl) (aQ aI bO (PEf.d (bT (aA (aP aG fun _=>.int _) (aA (aU fG pL (aU sO zEv (aP aG fun _=>.int _) (aP aG fun _=>.int _)) (aP aG fun _=>.int _)) (aA (aU kC sG (aP aG fun _=>.int _) (aP aG fun _=>.int _)) aF aX) aX) bA))) (aU bZ gX (aB 3 (pv 3)) (aP aG fun _=>.int _)) (fun _ _=>rfl)))
 (aH (bH (i:=5) cK.nd rfl (Or.inl rfl) (aU bZ gX (aU cX jU (aB 3 (pv 3)) (aP aG fun _=>.int _)) (bE aY fA rfl B.len PySem.boot_len (aA (aB 2 (pv 2)) aF aD))))
 (aH (bH (i:=6) cK.nd rfl (Or.inl rfl) (PEf.d (nD (PEf.d (nD (PEf.d (iN (aB 2 (pv 2)) mH (jJ (aB 5 (pv 5))))) (PEf.d (bT (aA (aU kC sG (aU kC sG (aP aG fun _=>.int _) (aP aG fun _=>.int _)) (aU bZ gX (aU cX jU (aB 3 (pv 3)) (aP aG fun _=>.int _)) (aU sO zEv (aP aG fun _=>.int _) (aP aG fun _=>.int _)))) aF aX))))) (PEf.d (iN (aB 2 (pv 2)) (jJ (aU fG pL (aB 5 (pv 5)) (aP aG fun _=>.int _))) mH)))))
 (aH (jY (tst (neA W.u) zFU (aL W c_law_refused rfl (aA (aQ aI bO (PEf.d (bT (aA (aP cH fun _=>.str _) (aA (aP cH fun _=>.str _) (aA (aP cH fun _=>.str _) (aA (aP cH fun _=>.str _) aF bA) bA) bA) bA))) (aU bZ gX (aB 3 (pv 3)) (aP aG fun _=>.int _)) (fun _ _=>rfl)) (aA (PEf.d (nD (aB 1 (pv 1)) (PEf.d (bT (aA (aB 4 (pv 4)) aF aD))))) (aA (aB 6 (pv 6)) aF aD) aX) aR)) (PEf.d (bT (aA (aP eY fun _=>.bl _) (aA (aP eY fun _=>.bl _) (aA (aP eY fun _=>.bl _) (aA (aP eY fun _=>.bl _) aF bA) bA) bA) bA))) (bL _)) (aM (dH (aP eY fun _=>.bl _))) bM)
 (aH (nU W.own W.calm (lN (PEf.d (bT (aA (aB 6 (pv 6)) (aA (PEf.d (bT aF)) aF zGk) aD)))) (gM (i:=7) cK.nd rfl (Or.inl rfl)) cS (aM (jY (tst (neA W.u) zFU (aL W c_law_refused rfl (aA (aB 0 (pv 0)) (aA (PEf.d (nD (aB 1 (pv 1)) (PEf.d (bT (aA (aB 4 (pv 4)) aF aD))))) (aA (aB 7 (pv 7)) aF aD) aX) aD)) (PEf.d (bT (aA (aP eY fun _=>.bl _) (aA (aP eY fun _=>.bl _) (aA (aP eY fun _=>.bl _) (aA (aP eY fun _=>.bl _) aF bA) bA) bA) bA))) (bL _)) (aM (dH (aP eY fun _=>.bl _))) bM)))
 (aH (jY (tst (neA W.u) zFU (aL W c_law_refused rfl (aA (aB 0 (pv 0)) (aA (PEf.d (nD (aB 1 (pv 1)) (PEf.d (bT (aA (aU fG pL (aP aG fun _=>.int _) (aU bZ gX (aU cX jU (aB 3 (pv 3)) (aP aG fun _=>.int _)) (aP aG fun _=>.int _))) aF aX))))) (aA (aB 2 (pv 2)) aF aD) aX) aD)) (PEf.d (bT (aA (aP eY fun _=>.bl _) (aA (aP eY fun _=>.bl _) (aA (aP eY fun _=>.bl _) (aA (aP eY fun _=>.bl _) aF bA) bA) bA) bA))) (bL _)) (aM (dH (aP eY fun _=>.bl _))) bM)
 (aH (jY (tst (eqA W.u) yA (aB 1 (pv 1)) (PEf.d (bT aF)) (bL _)) (aM (dH (aP eY fun _=>.bl _))) bM)
 (aH (jY (tst (neA W.u) zFU (aL W c_law_refused rfl (aA (aB 0 (pv 0)) (aA (PEf.d (iN (aB 1 (pv 1)) (jJ (aP aG fun _=>.int _)) mH)) (aA (aB 2 (pv 2)) aF aD) aR) aD)) (PEf.d (bT (aA (aP eY fun _=>.bl _) (aA (aP eY fun _=>.bl _) (aA (aP eY fun _=>.bl _) (aA (aP eY fun _=>.bl _) aF bA) bA) bA) bA))) (bL _)) (aM (dH (aP eY fun _=>.bl _))) bM)
 (aM (dH (zCC (eqA W.u) yA (aL W c_law_refused rfl (aA (aB 0 (pv 0)) (aA (PEf.d (nD (PEf.d (nD (PEf.d (iN (aB 1 (pv 1)) mH (jJ (aB 5 (pv 5))))) (PEf.d (bT (aA (aB 4 (pv 4)) aF aD))))) (PEf.d (iN (aB 1 (pv 1)) (jJ (aU fG pL (aB 5 (pv 5)) (aP aG fun _=>.int _))) mH)))) (aA (aB 2 (pv 2)) aF aD) aX) aD)) (PEf.d (bT (aA (aP eY fun _=>.bl _) (aA (aP eY fun _=>.bl _) (aA (aP eY fun _=>.bl _) (aA (aP eY fun _=>.bl _) aF bA) bA) bA) bA))) (bL _))))))))))))
theorem zLt (F:Fn K mg "law" pJ ["script"] f fd) (B:Bt mg) (KT:Kt K) (C:Ct K mg) (R:Rt K mg) (ET:Et K mg) (c_law_cell_at:CanM P w K mg base k "_law_cell_at" ["script", "k"] dB) (c_law_claims:CanM P w K mg base k "_law_claims" ["cells", "plan"] gB) (c_way_lines:CanM P w K mg base k "way_lines" ["way", "weights", "claims"] cO) (c_law_all_refused:CanM P w K mg base k "_law_all_refused" ["way", "weights", "claims", "cell"] cT) (c_law_weights:CanM P w K mg base k "_law_weights" ["cells", "plan"] eO) (c_law_place:CanM P w K mg base k "_law_place" ["cell", "line"] iF) (c_dealt:CanM P w K mg base k "dealt" ["way", "weights", "claims", "catch"] sR) (c_contrary_way:CanM P w K mg base k "contrary_way" ["way"] cB) (c_law_plus:CanM P w K mg base k "_law_plus" ["one", "two"] fM) (c_turned:CanM P w K mg base k "turned" ["line"] oC) (c_law_value:CanM P w K mg base k "_law_value" ["line", "x"] fH):FnOk P w K mg base (CX1 P w) (k+1) f fd ["script"] (spM K mg 1 zJe):=
  zKd F gC fun cdv A outer s H E G W WR=>(aH (bH (i:=1) gC.nd rfl (Or.inl rfl) (aL W c_law_cell_at rfl (aA (aB 0 (pv 0)) (aA (aP aG fun _=>.int _) aF bA) aD)))
 (aH (bH (i:=2) gC.nd rfl (Or.inl rfl) (PEf.d (cG W c_law_claims rfl (aA (PEf.d (iN (aB 0 (pv 0)) (jJ (aP aG fun _=>.int _)) (jJ (aP aG fun _=>.int _)))) (aA (aB 1 (pv 1)) aF aD) aR))))
 (aH (jY (tst (eqA W.u) yA (aB 2 (pv 2)) (PEf.d (bT aF)) (bL _)) (aM (bH (i:=2) gC.nd rfl (Or.inl rfl) (PEf.d (bT (aA (aU bZ gX (aB 1 (pv 1)) (aP aG fun _=>.int _)) aF aX))))) bM)
 (aH (bH (i:=3) gC.nd rfl (Or.inl rfl) (aQ aI bO (PEf.d (bT (aA (aP cH fun _=>.str _) (aA (aP cH fun _=>.str _) (aA (aP cH fun _=>.str _) (aA (aP cH fun _=>.str _) (aA (aP cH fun _=>.str _) (aA (aP cH fun _=>.str _) aF bA) bA) bA) bA) bA) bA))) (aU bZ gX (aU cX jU (aB 1 (pv 1)) (aP aG fun _=>.int _)) (aP aG fun _=>.int _)) (fun _ _=>rfl)))
 (aH (bH (i:=4) gC.nd rfl (Or.inl rfl) (PEf.d (bT aF)))
 (aH (jY (tst (inA W.u) zND (aB 3 (pv 3)) (nV (aA (aP cH fun _=>.str _) (aA (aP cH fun _=>.str _) aF bA) bA)) (by with_unfolding_all rfl)) (aM (bH (i:=4) gC.nd rfl (Or.inl rfl) (PEf.d (cG W c_law_weights rfl (aA (PEf.d (iR W gC.nd rfl (sc:=aK pJ) rfl rfl (by decide +kernel) (zBY rfl B.range (aA (bE aY fA rfl B.len PySem.boot_len (aA (aB 2 (pv 2)) aF aD)) aF aO)) (fun C2 s2 H2 fp2 G W=>⟨nX,(aL W c_law_cell_at rfl (aA (aB 0 (pv 0)) (aA (aU fG pL (aP aG fun _=>.int _) (aB 12 (pv 12))) aF aX) aD))⟩))) (aA (aB 1 (pv 1)) aF aD)))))) bM)
 (aH (bH (i:=5) gC.nd rfl (Or.inl rfl) (PEf.d (cG W c_way_lines rfl (aA (aB 3 (pv 3)) (aA (PEf.d (oU rfl B.list boot_list (aA (aB 4 (pv 4)) aF aD))) (aA (PEf.d (oU rfl B.list boot_list (aA (aB 2 (pv 2)) aF aD))) aF aO) aO) aD))))
 (aH (nU W.own W.calm (lN (PEf.d (nD (PEf.d (bT (aA (aP aG fun _=>.int _) aF bA))) (PEf.d (iN (aB 0 (pv 0)) mH (jJ (aP aG fun _=>.int _))))))) (gM (i:=6) gC.nd rfl (Or.inl rfl)) cS (aH (bH (i:=7) gC.nd rfl (Or.inl rfl) (aL W c_law_place rfl (aA (aB 6 (pv 6)) (aA (aQ aI bO (aB 5 (pv 5)) (aU bZ gX (aU cX jU (aB 6 (pv 6)) (aP aG fun _=>.int _)) (bE aY fA rfl B.len PySem.boot_len (aA (aB 5 (pv 5)) aF aD))) (fun _ _=>rfl)) aF aR) aD)))
 (aH (bH (i:=8) gC.nd rfl (Or.inl rfl) (PEf.d (cG W c_dealt rfl (aA (aB 3 (pv 3)) (aA (PEf.d (oU rfl B.list boot_list (aA (aB 4 (pv 4)) aF aD))) (aA (PEf.d (oU rfl B.list boot_list (aA (aB 2 (pv 2)) aF aD))) (aA (aB 7 (pv 7)) aF aD) aO) aO) aD))))
 (aH (bH (i:=9) gC.nd rfl (Or.inl rfl) (nV (aA (aP aG fun _=>.int _) (aA (aP aG fun _=>.int _) aF bA) bA)))
 (aH (nU W.own W.calm (zBY rfl B.range (aA (bE aY fA rfl B.len PySem.boot_len (aA (aB 2 (pv 2)) aF aD)) aF aO)) (gM (i:=10) gC.nd rfl (Or.inl rfl)) cS (aH (bH (i:=9) gC.nd rfl (Or.inl rfl) (aL W c_law_plus rfl (aA (aB 9 (pv 9)) (aA (aQ aI bO (aB 8 (pv 8)) (aB 10 (pv 10)) (fun _ _=>rfl)) aF aR) aD)))
 (aM (jY (tst (neA W.u) zFU (aL W c_law_value rfl (aA (aQ aI bO (aB 5 (pv 5)) (aB 10 (pv 10)) (fun _ _=>rfl)) (aA (aB 7 (pv 7)) aF aD) aR)) (aQ aI bO (aB 8 (pv 8)) (aB 10 (pv 10)) (fun _ _=>rfl)) (bL _)) (aM (dH (aP eY fun _=>.bl _))) bM))))
 (aM (jY (tst (neA W.u) zFU (aB 9 (pv 9)) (aB 7 (pv 7)) (bL _)) (aM (dH (aP eY fun _=>.bl _))) bM)))))))
 (aH (bH (i:=11) gC.nd rfl (Or.inl rfl) (PEf.d (cG W c_way_lines rfl (aA (aL W c_contrary_way rfl (aA (aB 3 (pv 3)) aF aD)) (aA (PEf.d (oU rfl B.list boot_list (aA (aB 4 (pv 4)) aF aD))) (aA (PEf.d (oU rfl B.list boot_list (aA (aB 2 (pv 2)) aF aD))) aF aO) aO) aO))))
 (aH (jY (tst (neA W.u) zFU (aB 11 (pv 11)) (PEf.d (iR W gC.nd rfl (sc:=aK pJ) rfl rfl (by decide +kernel) (lN (aB 5 (pv 5))) (fun C2 s2 H2 fp2 G W=>⟨nX,(aL W c_turned rfl (aA (aB 12 (pv 12)) aF aD))⟩))) (bL _)) (aM (dH (aP eY fun _=>.bl _))) bM)
 (aM (dH (aL W c_law_all_refused rfl (aA (aB 3 (pv 3)) (aA (aB 4 (pv 4)) (aA (aB 2 (pv 2)) (aA (aL W c_law_cell_at rfl (aA (aB 0 (pv 0)) (aA (aP aG fun _=>.int _) aF bA) aD)) aF aO) aD) aD) aD))))))))))))))
end
end Lw
namespace Lw
open PySem PySem.Spec PyProof.Rows L2 L3
def FnK (K:PySem.W.Frag) (x:Str) (st:Stmt):Prop:=∃ f oc od sl kV dc pm an cd ct,PySem.W.nsIn K mainGlobals x=some (some (.ref f))/\K.lookup f=some ⟨oc,od,.func (PySem.W.fnOf x x (iT st) (eU st) (aK st) .none kV dc pm an cd ct),sl⟩/\PySem.W.codeIn K cd x=true/\PySem.W.keepIn K (.ref f)=true
theorem fk {K:PySem.W.Frag} {h:Heap} {mg:Str->Option Value} {x:Str} {st:Stmt} (X:K.In h) (G:h.Ns mainGlobals mg) (d:FnK K x st) (ps:List Str) (hb:∀ (kV doc pm:Value) (an:Option Addr) (cdv ct:Value) (us:List Value),us.length=ps.length->bindArgs (PySem.W.fnOf x x (iT st) (eU st) (aK st) .none kV doc pm an cdv ct) ⟨us,[]⟩=pure (ps.zip us)):∃ f fd,Fn K mg x st ps f fd:=by
 obtain ⟨f,oc,od,sl,kV,dc,pm,an,cd,ct,a,l,c,k⟩:=d
 exact ⟨f,_,uZ (st:=st) l c k,(uZ (st:=st) l c k).binds (ps:=ps) hb,k,PySem.W.mg_of X G a⟩
theorem fkm {K:PySem.W.Frag} {x:Str} {st:Stmt} {f:Addr} {oc:Value} {od an:Option Addr} {sl:Array (Option Value)} {kV dc pm cd ct:Value} (a:PySem.W.nsIn K mainGlobals x=some (some (.ref f))) (l:K.lookup f=some ⟨oc,od,.func (PySem.W.fnOf x x (iT st) (eU st) (aK st) .none kV dc pm an cd ct),sl⟩) (c:PySem.W.codeIn K cd x=true) (k:PySem.W.keepIn K (.ref f)=true):FnK K x st:=⟨f,oc,od,sl,kV,dc,pm,an,cd,ct,a,l,c,k⟩
theorem zLQ {l:PySem.W.OpenLaw} {w:World} {K:PySem.W.Frag} {h:Heap} {mg:Str->Option Value} {fa f11 f47:Addr} (X:K.In h) (G:h.Ns mainGlobals mg) (hfa:mg "law" = some (.ref fa))
  {od11 an11:Option Addr} {sl11:Array (Option Value)} {oc11 kV11 dc11 pm11 ct11:Value}
  {od47 an47:Option Addr} {sl47:Array (Option Value)} {oc47 kV47 dc47 pm47 cd47 ct47:Value}
  (d0:FnK K "common_divisor" gJ)
  (d1:FnK K "made" zFG)
  (d2:FnK K "whole" zBo)
  (d3:FnK K "plus" zFe)
  (d4:FnK K "minus" zBc)
  (d5:FnK K "times" zAW)
  (d6:FnK K "over" zEx)
  (d7:FnK K "less" zDC)
  (d8:FnK K "lesser" xE)
  (d9:FnK K "is_outside" kI)
  (d10:FnK K "refuse_outside" gH)
  {cR T:Addr}
  (a11:PySem.W.nsIn K mainGlobals "ranked" = some (some (.ref f11))) (l11:K.lookup f11=some ⟨oc11,od11,.func (PySem.W.fnOf "ranked" "ranked" (iT gN) (eU gN) (aK gN) .none kV11 dc11 pm11 an11 (.ref cR) ct11),sl11⟩) (c11:PySem.W.codeIn K (.ref cR) "ranked" = true) (k11:PySem.W.keepIn K (.ref f11)=true)
  (tq:PySem.W.codeHdIn K cR T=true) (tn:K.lookup T=none)
  (d12:FnK K "line_of" sB)
  (d13:FnK K "refuse_bad" kR)
  (d14:FnK K "is_between" kG)
  (d15:FnK K "turned" qR)
  (d16:FnK K "looked" xO)
  (d17:FnK K "refuse_way" kT)
  (d18:FnK K "refuse_claims" iB)
  (d19:FnK K "refuse_weights" gI)
  (d20:FnK K "contrary_way" iS)
  (d21:FnK K "dealt" zBf)
  (d22:FnK K "rightly_dealt" dO)
  (d23:FnK K "row_dealt" mV)
  (d24:FnK K "even_dealt" kH)
  (d25:FnK K "levels_of" jO)
  (d26:FnK K "part_dealt" iQ)
  (d27:FnK K "half_dealt" iL)
  (d28:FnK K "way_lines" iA)
  (d29:FnK K "line_at" nT)
  (d30:FnK K "joints_of" hJ)
  (d31:FnK K "row_joints" kU)
  (d32:FnK K "even_joints" jG)
  (d33:FnK K "mirrored" lC)
  (d34:FnK K "without_doubles" fE)
  (d35:FnK K "_law_cell_at" jQ)
  (d36:FnK K "_law_made" oO)
  (d37:FnK K "_law_plus" oT)
  (d38:FnK K "_law_minus" lX)
  (d39:FnK K "_law_times" lY)
  (d40:FnK K "_law_less" oP)
  (d41:FnK K "_law_value" mM)
  (d42:FnK K "_law_place" mC)
  (d43:FnK K "_law_claims" kO)
  (d44:FnK K "_law_weights" jM)
  (d45:FnK K "_law_refused" jR)
  (d46:FnK K "_law_all_refused" fK)
  (a47:PySem.W.nsIn K mainGlobals "law" = some (some (.ref f47))) (l47:K.lookup f47=some ⟨oc47,od47,.func (PySem.W.fnOf "law" "law" (iT pJ) (eU pJ) (aK pJ) .none kV47 dc47 pm47 an47 cd47 ct47),sl47⟩) (c47:PySem.W.codeIn K cd47 "law" = true) (k47:PySem.W.keepIn K (.ref f47)=true)
  (z_abs:PySem.W.nsIn K mainGlobals "abs" = some none)
  (z_sorted:PySem.W.nsIn K mainGlobals "sorted" = some none)
  (z_range:PySem.W.nsIn K mainGlobals "range" = some none)
  (z_len:PySem.W.nsIn K mainGlobals "len" = some none)
  (z_tuple:PySem.W.nsIn K mainGlobals "tuple" = some none)
  (z_reversed:PySem.W.nsIn K mainGlobals "reversed" = some none)
  (z_sum:PySem.W.nsIn K mainGlobals "sum" = some none)
  (z_zip:PySem.W.nsIn K mainGlobals "zip" = some none)
  (z_isinstance:PySem.W.nsIn K mainGlobals "isinstance" = some none)
  (z_list:PySem.W.nsIn K mainGlobals "list" = some none)
  (KT:Kt K) (CC:∀ (h:Heap) (mg:Str->Option Value),K.In h->h.Ns mainGlobals mg->Ct K mg) (RR:∀ (h:Heap) (mg:Str->Option Value),K.In h->h.Ns mainGlobals mg->Rt K mg) (EE:∀ (h:Heap) (mg:Str->Option Value),K.In h->h.Ns mainGlobals mg->Et K mg)
  : K.lookup T=none/\nM K mg T/\∃ fd:FuncData,(∀ (s:Shared) (v:Value),BindsTo s fd ⟨[v],[]⟩ [("script", v)])/\∀ base:Heap,K.In base->base.Ns mainGlobals mg->BMn base mg->FnOk l.prog w K mg base (CX1 l.prog w) 12 fa fd ["script"] (zMa K mg):=by
 have e:=hfa.symm.trans (PySem.W.mg_of X G a47)
 cases e
 have B:Bt mg:=⟨PySem.W.mg_none_of X G z_abs,PySem.W.mg_none_of X G z_sorted,PySem.W.mg_none_of X G z_range,PySem.W.mg_none_of X G z_len,PySem.W.mg_none_of X G z_tuple,PySem.W.mg_none_of X G z_reversed,PySem.W.mg_none_of X G z_sum,PySem.W.mg_none_of X G z_zip,PySem.W.mg_none_of X G z_isinstance,PySem.W.mg_none_of X G z_list⟩
 have C:Ct K mg:=CC h mg X G
 have R:Rt K mg:=RR h mg X G
 have ET:Et K mg:=EE h mg X G
 have hT:nM K mg T:=⟨f11,_,_,_,_,cR,PySem.W.mg_of X G a11,l11,rfl,fun h X=>PySem.W.codeHd_of_K X tq⟩
 refine ⟨tn,hT,?_⟩
 refine ⟨PySem.W.fnOf "law" "law" (iT pJ) (eU pJ) (aK pJ) .none kV47 dc47 pm47 an47 cd47 ct47,fun s v=>.of_eq rfl,fun base _ _ hB=>?_⟩
 obtain ⟨_,_,F0⟩:=fk X G d0 ["one", "two"] fun _ _ _ _ _ _ us hl=>by obtain ⟨_,_,rfl⟩:=L3.ln2 hl;rfl
 have c_common_divisor:=pN (P:=l.prog) (w:=w) (base:=base) (k:=0) F0 B KT C R ET
 obtain ⟨_,_,F2⟩:=fk X G d2 ["number"] fun _ _ _ _ _ _ us hl=>by obtain ⟨_,rfl⟩:=L3.ln1 hl;rfl
 have c_whole:=zGc (P:=l.prog) (w:=w) (base:=base) (k:=0) F2 B KT C R ET
 obtain ⟨_,_,F7⟩:=fk X G d7 ["one", "two"] fun _ _ _ _ _ _ us hl=>by obtain ⟨_,_,rfl⟩:=L3.ln2 hl;rfl
 have c_less:=zIy (P:=l.prog) (w:=w) (base:=base) (k:=0) F7 B KT C R ET
 have F11:Fn K mg "ranked" gN ["some"] _ _:=⟨uZ (st:=gN) l11 c11 k11,(uZ (st:=gN) l11 c11 k11).binds (ps:=["some"]) fun _ _ _ _ _ _ us hl=>by obtain ⟨_,rfl⟩:=L3.ln1 hl;rfl,k11,PySem.W.mg_of X G a11⟩
 have c_ranked:=zFD (P:=l.prog) (w:=w) (base:=base) (k:=0) F11 B KT C R ET hT hB
 obtain ⟨_,_,F17⟩:=fk X G d17 ["way"] fun _ _ _ _ _ _ us hl=>by obtain ⟨_,rfl⟩:=L3.ln1 hl;rfl
 have c_refuse_way:=xY (P:=l.prog) (w:=w) (base:=base) (k:=0) F17 B KT C R ET
 obtain ⟨_,_,F18⟩:=fk X G d18 ["claims"] fun _ _ _ _ _ _ us hl=>by obtain ⟨_,rfl⟩:=L3.ln1 hl;rfl
 have c_refuse_claims:=qF (P:=l.prog) (w:=w) (base:=base) (k:=0) F18 B KT C R ET
 obtain ⟨_,_,F19⟩:=fk X G d19 ["way", "weights", "many"] fun _ _ _ _ _ _ us hl=>by obtain ⟨_,_,_,rfl⟩:=L3.ln3 hl;rfl
 have c_refuse_weights:=oY (P:=l.prog) (w:=w) (base:=base) (k:=0) F19 B KT C R ET
 obtain ⟨_,_,F35⟩:=fk X G d35 ["script", "k"] fun _ _ _ _ _ _ us hl=>by obtain ⟨_,_,rfl⟩:=L3.ln2 hl;rfl
 have c_law_cell_at:=tI (P:=l.prog) (w:=w) (base:=base) (k:=0) F35 B KT C R ET
 obtain ⟨_,_,F36⟩:=fk X G d36 ["top", "bottom"] fun _ _ _ _ _ _ us hl=>by obtain ⟨_,_,rfl⟩:=L3.ln2 hl;rfl
 have c_law_made:=zAY (P:=l.prog) (w:=w) (base:=base) (k:=0) F36 B KT C R ET
 obtain ⟨_,_,F40⟩:=fk X G d40 ["one", "two"] fun _ _ _ _ _ _ us hl=>by obtain ⟨_,_,rfl⟩:=L3.ln2 hl;rfl
 have c_law_less:=zAH (P:=l.prog) (w:=w) (base:=base) (k:=0) F40 B KT C R ET
 obtain ⟨_,_,F43⟩:=fk X G d43 ["cells", "plan"] fun _ _ _ _ _ _ us hl=>by obtain ⟨_,_,rfl⟩:=L3.ln2 hl;rfl
 have c_law_claims:=vM (P:=l.prog) (w:=w) (base:=base) (k:=0) F43 B KT C R ET
 obtain ⟨_,_,F44⟩:=fk X G d44 ["cells", "plan"] fun _ _ _ _ _ _ us hl=>by obtain ⟨_,_,rfl⟩:=L3.ln2 hl;rfl
 have c_law_weights:=uF (P:=l.prog) (w:=w) (base:=base) (k:=0) F44 B KT C R ET
 obtain ⟨_,_,F1⟩:=fk X G d1 ["top", "bottom"] fun _ _ _ _ _ _ us hl=>by obtain ⟨_,_,rfl⟩:=L3.ln2 hl;rfl
 have c_made:=zIX (P:=l.prog) (w:=w) (base:=base) (k:=1) F1 B KT C R ET (c_common_divisor:=c_common_divisor.mono (by decide))
 obtain ⟨_,_,F8⟩:=fk X G d8 ["one", "two"] fun _ _ _ _ _ _ us hl=>by obtain ⟨_,_,rfl⟩:=L3.ln2 hl;rfl
 have c_lesser:=zDS (P:=l.prog) (w:=w) (base:=base) (k:=1) F8 B KT C R ET (c_less:=c_less.mono (by decide))
 obtain ⟨_,_,F9⟩:=fk X G d9 ["amount", "most"] fun _ _ _ _ _ _ us hl=>by obtain ⟨_,_,rfl⟩:=L3.ln2 hl;rfl
 have c_is_outside:=vR (P:=l.prog) (w:=w) (base:=base) (k:=1) F9 B KT C R ET (c_less:=c_less.mono (by decide))
 obtain ⟨_,_,F13⟩:=fk X G d13 ["points"] fun _ _ _ _ _ _ us hl=>by obtain ⟨_,rfl⟩:=L3.ln1 hl;rfl
 have c_refuse_bad:=xN (P:=l.prog) (w:=w) (base:=base) (k:=1) F13 B KT C R ET (c_less:=c_less.mono (by decide))
 obtain ⟨_,_,F16⟩:=fk X G d16 ["way", "weights", "claims"] fun _ _ _ _ _ _ us hl=>by obtain ⟨_,_,_,rfl⟩:=L3.ln3 hl;rfl
 have c_looked:=zDV (P:=l.prog) (w:=w) (base:=base) (k:=1) F16 B KT C R ET (c_refuse_way:=c_refuse_way.mono (by decide)) (c_refuse_claims:=c_refuse_claims.mono (by decide)) (c_refuse_weights:=c_refuse_weights.mono (by decide))
 obtain ⟨_,_,F20⟩:=fk X G d20 ["way"] fun _ _ _ _ _ _ us hl=>by obtain ⟨_,rfl⟩:=L3.ln1 hl;rfl
 have c_contrary_way:=rE (P:=l.prog) (w:=w) (base:=base) (k:=1) F20 B KT C R ET (c_refuse_way:=c_refuse_way.mono (by decide))
 obtain ⟨_,_,F31⟩:=fk X G d31 ["claims"] fun _ _ _ _ _ _ us hl=>by obtain ⟨_,rfl⟩:=L3.ln1 hl;rfl
 have c_row_joints:=wH (P:=l.prog) (w:=w) (base:=base) (k:=1) F31 B KT C R ET (c_whole:=c_whole.mono (by decide))
 obtain ⟨_,_,F34⟩:=fk X G d34 ["joints"] fun _ _ _ _ _ _ us hl=>by obtain ⟨_,rfl⟩:=L3.ln1 hl;rfl
 have c_without_doubles:=nS (P:=l.prog) (w:=w) (base:=base) (k:=1) F34 B KT C R ET (c_less:=c_less.mono (by decide))
 obtain ⟨_,_,F37⟩:=fk X G d37 ["one", "two"] fun _ _ _ _ _ _ us hl=>by obtain ⟨_,_,rfl⟩:=L3.ln2 hl;rfl
 have c_law_plus:=zBv (P:=l.prog) (w:=w) (base:=base) (k:=1) F37 B KT C R ET (c_law_made:=c_law_made.mono (by decide))
 obtain ⟨_,_,F38⟩:=fk X G d38 ["one", "two"] fun _ _ _ _ _ _ us hl=>by obtain ⟨_,_,rfl⟩:=L3.ln2 hl;rfl
 have c_law_minus:=zAn (P:=l.prog) (w:=w) (base:=base) (k:=1) F38 B KT C R ET (c_law_made:=c_law_made.mono (by decide))
 obtain ⟨_,_,F39⟩:=fk X G d39 ["one", "two"] fun _ _ _ _ _ _ us hl=>by obtain ⟨_,_,rfl⟩:=L3.ln2 hl;rfl
 have c_law_times:=zZ (P:=l.prog) (w:=w) (base:=base) (k:=1) F39 B KT C R ET (c_law_made:=c_law_made.mono (by decide))
 obtain ⟨_,_,F3⟩:=fk X G d3 ["one", "two"] fun _ _ _ _ _ _ us hl=>by obtain ⟨_,_,rfl⟩:=L3.ln2 hl;rfl
 have c_plus:=zJL (P:=l.prog) (w:=w) (base:=base) (k:=2) F3 B KT C R ET (c_made:=c_made.mono (by decide))
 obtain ⟨_,_,F4⟩:=fk X G d4 ["one", "two"] fun _ _ _ _ _ _ us hl=>by obtain ⟨_,_,rfl⟩:=L3.ln2 hl;rfl
 have c_minus:=zGp (P:=l.prog) (w:=w) (base:=base) (k:=2) F4 B KT C R ET (c_made:=c_made.mono (by decide))
 obtain ⟨_,_,F5⟩:=fk X G d5 ["one", "two"] fun _ _ _ _ _ _ us hl=>by obtain ⟨_,_,rfl⟩:=L3.ln2 hl;rfl
 have c_times:=zHi (P:=l.prog) (w:=w) (base:=base) (k:=2) F5 B KT C R ET (c_made:=c_made.mono (by decide))
 obtain ⟨_,_,F6⟩:=fk X G d6 ["one", "two"] fun _ _ _ _ _ _ us hl=>by obtain ⟨_,_,rfl⟩:=L3.ln2 hl;rfl
 have c_over:=zJC (P:=l.prog) (w:=w) (base:=base) (k:=2) F6 B KT C R ET (c_made:=c_made.mono (by decide))
 obtain ⟨_,_,F10⟩:=fk X G d10 ["amount", "most"] fun _ _ _ _ _ _ us hl=>by obtain ⟨_,_,rfl⟩:=L3.ln2 hl;rfl
 have c_refuse_outside:=oQ (P:=l.prog) (w:=w) (base:=base) (k:=2) F10 B KT C R ET (c_is_outside:=c_is_outside.mono (by decide))
 obtain ⟨_,_,F25⟩:=fk X G d25 ["weights", "claims"] fun _ _ _ _ _ _ us hl=>by obtain ⟨_,_,rfl⟩:=L3.ln2 hl;rfl
 have c_levels_of:=zC (P:=l.prog) (w:=w) (base:=base) (k:=2) F25 B KT C R ET (c_made:=c_made.mono (by decide))
 obtain ⟨_,_,F41⟩:=fk X G d41 ["line", "x"] fun _ _ _ _ _ _ us hl=>by obtain ⟨_,_,rfl⟩:=L3.ln2 hl;rfl
 have c_law_value:=zAc (P:=l.prog) (w:=w) (base:=base) (k:=2) F41 B KT C R ET (c_law_less:=c_law_less.mono (by decide)) (c_law_minus:=c_law_minus.mono (by decide)) (c_law_times:=c_law_times.mono (by decide)) (c_law_plus:=c_law_plus.mono (by decide))
 obtain ⟨_,_,F42⟩:=fk X G d42 ["cell", "line"] fun _ _ _ _ _ _ us hl=>by obtain ⟨_,_,rfl⟩:=L3.ln2 hl;rfl
 have c_law_place:=yQ (P:=l.prog) (w:=w) (base:=base) (k:=2) F42 B KT C R ET (c_law_times:=c_law_times.mono (by decide)) (c_law_made:=c_law_made.mono (by decide))
 obtain ⟨_,_,F14⟩:=fk X G d14 ["ahead", "point", "later"] fun _ _ _ _ _ _ us hl=>by obtain ⟨_,_,_,rfl⟩:=L3.ln3 hl;rfl
 have c_is_between:=xM (P:=l.prog) (w:=w) (base:=base) (k:=3) F14 B KT C R ET (c_minus:=c_minus.mono (by decide)) (c_times:=c_times.mono (by decide))
 obtain ⟨_,_,F15⟩:=fk X G d15 ["line"] fun _ _ _ _ _ _ us hl=>by obtain ⟨_,rfl⟩:=L3.ln1 hl;rfl
 have c_turned:=zFg (P:=l.prog) (w:=w) (base:=base) (k:=3) F15 B KT C R ET (c_minus:=c_minus.mono (by decide))
 obtain ⟨_,_,F23⟩:=fk X G d23 ["claims", "catch"] fun _ _ _ _ _ _ us hl=>by obtain ⟨_,_,rfl⟩:=L3.ln2 hl;rfl
 have c_row_dealt:=zAq (P:=l.prog) (w:=w) (base:=base) (k:=3) F23 B KT C R ET (c_lesser:=c_lesser.mono (by decide)) (c_minus:=c_minus.mono (by decide)) (c_whole:=c_whole.mono (by decide))
 obtain ⟨_,_,F24⟩:=fk X G d24 ["weights", "claims", "catch"] fun _ _ _ _ _ _ us hl=>by obtain ⟨_,_,_,rfl⟩:=L3.ln3 hl;rfl
 have c_even_dealt:=vG (P:=l.prog) (w:=w) (base:=base) (k:=3) F24 B KT C R ET (c_ranked:=c_ranked.mono (by decide)) (c_levels_of:=c_levels_of.mono (by decide)) (c_over:=c_over.mono (by decide)) (c_lesser:=c_lesser.mono (by decide)) (c_minus:=c_minus.mono (by decide)) (c_times:=c_times.mono (by decide)) (c_whole:=c_whole.mono (by decide))
 obtain ⟨_,_,F26⟩:=fk X G d26 ["claims", "catch"] fun _ _ _ _ _ _ us hl=>by obtain ⟨_,_,rfl⟩:=L3.ln2 hl;rfl
 have c_part_dealt:=vI (P:=l.prog) (w:=w) (base:=base) (k:=3) F26 B KT C R ET (c_over:=c_over.mono (by decide)) (c_whole:=c_whole.mono (by decide)) (c_times:=c_times.mono (by decide))
 obtain ⟨_,_,F32⟩:=fk X G d32 ["weights", "claims"] fun _ _ _ _ _ _ us hl=>by obtain ⟨_,_,rfl⟩:=L3.ln2 hl;rfl
 have c_even_joints:=uM (P:=l.prog) (w:=w) (base:=base) (k:=3) F32 B KT C R ET (c_levels_of:=c_levels_of.mono (by decide)) (c_ranked:=c_ranked.mono (by decide)) (c_plus:=c_plus.mono (by decide)) (c_whole:=c_whole.mono (by decide)) (c_times:=c_times.mono (by decide))
 obtain ⟨_,_,F33⟩:=fk X G d33 ["joints", "most"] fun _ _ _ _ _ _ us hl=>by obtain ⟨_,_,rfl⟩:=L3.ln2 hl;rfl
 have c_mirrored:=zAM (P:=l.prog) (w:=w) (base:=base) (k:=3) F33 B KT C R ET (c_minus:=c_minus.mono (by decide))
 obtain ⟨_,_,F12⟩:=fk X G d12 ["points"] fun _ _ _ _ _ _ us hl=>by obtain ⟨_,rfl⟩:=L3.ln1 hl;rfl
 have c_line_of:=zDa (P:=l.prog) (w:=w) (base:=base) (k:=4) F12 B KT C R ET (c_refuse_bad:=c_refuse_bad.mono (by decide)) (c_is_between:=c_is_between.mono (by decide))
 obtain ⟨_,_,F27⟩:=fk X G d27 ["claims", "catch"] fun _ _ _ _ _ _ us hl=>by obtain ⟨_,_,rfl⟩:=L3.ln2 hl;rfl
 have c_half_dealt:=xX (P:=l.prog) (w:=w) (base:=base) (k:=4) F27 B KT C R ET (c_times:=c_times.mono (by decide)) (c_even_dealt:=c_even_dealt.mono (by decide)) (c_plus:=c_plus.mono (by decide))
 obtain ⟨_,_,F29⟩:=fk X G d29 ["joints", "dealings", "spot"] fun _ _ _ _ _ _ us hl=>by obtain ⟨_,_,_,rfl⟩:=L3.ln3 hl;rfl
 have c_line_at:=zDj (P:=l.prog) (w:=w) (base:=base) (k:=5) F29 B KT C R ET (c_line_of:=c_line_of.mono (by decide))
 obtain ⟨_,_,F30⟩:=fk X G d30 ["way", "weights", "claims"] fun _ _ _ _ _ _ us hl=>by obtain ⟨_,_,_,rfl⟩:=L3.ln3 hl;rfl
 have c_joints_of:=pZ (P:=l.prog) (w:=w) (base:=base) (k:=4) F30 B KT C R ET (c_whole:=c_whole.mono (by decide)) (c_mirrored:=c_mirrored.mono (by decide)) (c_row_joints:=c_row_joints.mono (by decide)) (c_even_joints:=c_even_joints.mono (by decide)) (c_times:=c_times.mono (by decide)) (c_contrary_way:=c_contrary_way.mono (by decide)) 2
 obtain ⟨_,_,F22⟩:=fk X G d22 ["way", "weights", "claims", "catch"] fun _ _ _ _ _ _ us hl=>by obtain ⟨_,_,_,_,rfl⟩:=L3.ln4 hl;rfl
 have c_rightly_dealt:=jW (P:=l.prog) (w:=w) (base:=base) (k:=5) F22 B KT C R ET (c_whole:=c_whole.mono (by decide)) (c_row_dealt:=c_row_dealt.mono (by decide)) (c_even_dealt:=c_even_dealt.mono (by decide)) (c_part_dealt:=c_part_dealt.mono (by decide)) (c_half_dealt:=c_half_dealt.mono (by decide)) (c_minus:=c_minus.mono (by decide)) (c_less:=c_less.mono (by decide)) (c_plus:=c_plus.mono (by decide)) 2
 obtain ⟨_,_,F21⟩:=fk X G d21 ["way", "weights", "claims", "catch"] fun _ _ _ _ _ _ us hl=>by obtain ⟨_,_,_,_,rfl⟩:=L3.ln4 hl;rfl
 have c_dealt:=zGM (P:=l.prog) (w:=w) (base:=base) (k:=8) F21 B KT C R ET (c_looked:=c_looked.mono (by decide)) (c_refuse_outside:=c_refuse_outside.mono (by decide)) (c_rightly_dealt:=c_rightly_dealt.mono (by decide)) (c_whole:=c_whole.mono (by decide))
 obtain ⟨_,_,F28⟩:=fk X G d28 ["way", "weights", "claims"] fun _ _ _ _ _ _ us hl=>by obtain ⟨_,_,_,rfl⟩:=L3.ln3 hl;rfl
 have c_way_lines:=zD (P:=l.prog) (w:=w) (base:=base) (k:=8) F28 B KT C R ET (c_looked:=c_looked.mono (by decide)) (c_without_doubles:=c_without_doubles.mono (by decide)) (c_joints_of:=c_joints_of.mono (by decide)) (c_rightly_dealt:=c_rightly_dealt.mono (by decide)) (c_line_at:=c_line_at.mono (by decide))
 obtain ⟨_,_,F45⟩:=fk X G d45 ["way", "weights", "claims"] fun _ _ _ _ _ _ us hl=>by obtain ⟨_,_,_,rfl⟩:=L3.ln3 hl;rfl
 have c_law_refused:=uN (P:=l.prog) (w:=w) (base:=base) (k:=9) F45 B KT C R ET (c_way_lines:=c_way_lines.mono (by decide))
 obtain ⟨_,_,F46⟩:=fk X G d46 ["way", "weights", "claims", "cell"] fun _ _ _ _ _ _ us hl=>by obtain ⟨_,_,_,_,rfl⟩:=L3.ln4 hl;rfl
 have c_law_all_refused:=nI (P:=l.prog) (w:=w) (base:=base) (k:=10) F46 B KT C R ET (c_law_refused:=c_law_refused.mono (by decide))
 have F47:Fn K mg "law" pJ ["script"] _ _:=⟨uZ (st:=pJ) l47 c47 k47,(uZ (st:=pJ) l47 c47 k47).binds (ps:=["script"]) fun _ _ _ _ _ _ us hl=>by obtain ⟨_,rfl⟩:=L3.ln1 hl;rfl,k47,PySem.W.mg_of X G a47⟩
 have c_law:=zLt (P:=l.prog) (w:=w) (base:=base) (k:=11) F47 B KT C R ET (c_law_cell_at:=c_law_cell_at.mono (by decide)) (c_law_claims:=c_law_claims.mono (by decide)) (c_way_lines:=c_way_lines.mono (by decide)) (c_law_all_refused:=c_law_all_refused.mono (by decide)) (c_law_weights:=c_law_weights.mono (by decide)) (c_law_place:=c_law_place.mono (by decide)) (c_dealt:=c_dealt.mono (by decide)) (c_contrary_way:=c_contrary_way.mono (by decide)) (c_law_plus:=c_law_plus.mono (by decide)) (c_turned:=c_turned.mono (by decide)) (c_law_value:=c_law_value.mono (by decide))
 exact zIS c_law law_true
end Lw
open PySem PySem.W PyProof.Rows
local macro_rules | `(tactic| walk_at "fk")=>`(tactic| (refine' Lw.fkm ?a ?l ?c ?k;(case a=>k_is);(case l=>k_is);(case c=>k_is);(case k=>k_is)))
set_option maxRecDepth 100000 in
set_option maxHeartbeats 0 in
theorem PySem.Challenge.cw_catchhall_k22_whole_lines_tell_all_deali_holds : PySem.Challenge.rw_catchhall_k22_whole_lines_tell_all_deali.Holds := by
 w_on;o_law;k_head;(case hw=>w_witness2)
 k_fill
 refine L3.zMy (l:=PySem.Challenge.rw_catchhall_k22_whole_lines_tell_all_deali) (k:=12) rfl rfl ⟨rfl,by decide,by decide⟩ (fun w h Y=>PySem.W.km_in_of Y) (fun w h Y=>PySem.W.km_tabs_of Y _ (.head _)) ?F
 case F=>
  intro w mg fa h KX G hmg
  refine' Lw.zLQ KX G hmg ?d0 ?d1 ?d2 ?d3 ?d4 ?d5 ?d6 ?d7 ?d8 ?d9 ?d10 ?a11 ?l11 ?c11 ?k11 ?tq ?tn ?d12 ?d13 ?d14 ?d15 ?d16 ?d17 ?d18 ?d19 ?d20 ?d21 ?d22 ?d23 ?d24 ?d25 ?d26 ?d27 ?d28 ?d29 ?d30 ?d31 ?d32 ?d33 ?d34 ?d35 ?d36 ?d37 ?d38 ?d39 ?d40 ?d41 ?d42 ?d43 ?d44 ?d45 ?d46 ?a47 ?l47 ?c47 ?k47 ?z_abs ?z_sorted ?z_range ?z_len ?z_tuple ?z_reversed ?z_sum ?z_zip ?z_isinstance ?z_list ?KT ?CC ?RR ?EE
  (case a11=>k_is)
  (case l11=>k_is)
  (case c11=>k_is)
  (case k11=>k_is)
  (case tq=>first | k_is | kernel_rfl | kn_code | decide +kernel)
  (case tn=>first | k_is | kernel_rfl | kn_code | decide +kernel)
  (case a47=>k_is)
  (case l47=>k_is)
  (case c47=>k_is)
  (case k47=>k_is)
  (case d0=>walk_at "fk")
  (case d1=>walk_at "fk")
  (case d2=>walk_at "fk")
  (case d3=>walk_at "fk")
  (case d4=>walk_at "fk")
  (case d5=>walk_at "fk")
  (case d6=>walk_at "fk")
  (case d7=>walk_at "fk")
  (case d8=>walk_at "fk")
  (case d9=>walk_at "fk")
  (case d10=>walk_at "fk")
  (case d12=>walk_at "fk")
  (case d13=>walk_at "fk")
  (case d14=>walk_at "fk")
  (case d15=>walk_at "fk")
  (case d16=>walk_at "fk")
  (case d17=>walk_at "fk")
  (case d18=>walk_at "fk")
  (case d19=>walk_at "fk")
  (case d20=>walk_at "fk")
  (case d21=>walk_at "fk")
  (case d22=>walk_at "fk")
  (case d23=>walk_at "fk")
  (case d24=>walk_at "fk")
  (case d25=>walk_at "fk")
  (case d26=>walk_at "fk")
  (case d27=>walk_at "fk")
  (case d28=>walk_at "fk")
  (case d29=>walk_at "fk")
  (case d30=>walk_at "fk")
  (case d31=>walk_at "fk")
  (case d32=>walk_at "fk")
  (case d33=>walk_at "fk")
  (case d34=>walk_at "fk")
  (case d35=>walk_at "fk")
  (case d36=>walk_at "fk")
  (case d37=>walk_at "fk")
  (case d38=>walk_at "fk")
  (case d39=>walk_at "fk")
  (case d40=>walk_at "fk")
  (case d41=>walk_at "fk")
  (case d42=>walk_at "fk")
  (case d43=>walk_at "fk")
  (case d44=>walk_at "fk")
  (case d45=>walk_at "fk")
  (case d46=>walk_at "fk")
  (case z_abs=>k_is)
  (case z_sorted=>k_is)
  (case z_range=>k_is)
  (case z_len=>k_is)
  (case z_tuple=>k_is)
  (case z_reversed=>k_is)
  (case z_sum=>k_is)
  (case z_zip=>k_is)
  (case z_isinstance=>k_is)
  (case z_list=>k_is)
  (case KT=>refine' ⟨⟩<;>(first | kit_is | (show _=some true;kit_is) | (show _=some false;kit_is) | rfl | decide +kernel))
  (case CC=>
   intro h mg X G
   refine' Lw.zMZ X G ?n_ACROSS ?n_HALF ?pHALF0_l ?n_NOUGHT ?pNOUGHT1_l ?n_UP ?n_WEIGHTED ?pWEIGHTED2_l ?n_CONTRARY ?aT<;>try first | k_is | kit_is | k_exc | rfl | decide +kernel | kernel_rfl)
  (case RR=>
   intro h mg X G
   refine' Lw.zNp X G ?n_BadClaim ?x_BadClaim ?n_BadLine ?x_BadLine ?n_BadWay ?x_BadWay ?n_BadWeights ?x_BadWeights ?n_NoFraction ?x_NoFraction ?n_Outside ?x_Outside<;>try first | k_is | kit_is | k_exc | rfl | decide +kernel | kernel_rfl)
  (case EE=>
   intro h mg X G
   refine' Lw.zNk X G ?n_CatchError ?n_BadWay ?n_BadClaim ?n_BadWeights ?z_ValueError ?ce1 ?ce2 ?ce3 ?g5 ?g6 ?e1_BadWay ?e2_BadWay ?e3_BadWay ?e4_BadWay ?e7_BadWay ?e8_BadWay ?em_BadWay ?k_BadWay_BadWeights ?k_BadWay_BadClaim ?k_BadWay_BadWay ?k_BadWay_ValueError ?e1_BadClaim ?e2_BadClaim ?e3_BadClaim ?e4_BadClaim ?e7_BadClaim ?e8_BadClaim ?em_BadClaim ?k_BadClaim_BadWeights ?k_BadClaim_BadClaim ?k_BadClaim_BadWay ?k_BadClaim_ValueError ?e1_BadWeights ?e2_BadWeights ?e3_BadWeights ?e4_BadWeights ?e7_BadWeights ?e8_BadWeights ?em_BadWeights ?k_BadWeights_BadWeights ?k_BadWeights_BadClaim ?k_BadWeights_BadWay ?k_BadWeights_ValueError<;>try first | k_is | kit_is | k_exc | rfl | decide +kernel | kernel_rfl)
