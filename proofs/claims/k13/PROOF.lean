import PyProof.Rows.All
import Wide.All
import OpenK.AllK
import Wide.FinOn
import Lean
import PyProof.EqAt
import PyProof.EqKinds
import PyProof.TupleCall
import PyProof.NeKinds
import KE.KRevIter
import PyProof.Rows.SumAny
import PySem.Challenge.RW_catchhall_k13_what_is_looked_at
noncomputable section
set_option Elab.async false
set_option linter.all false
set_option maxRecDepth 100000
namespace L2
open PySem PySem.Spec PyProof.Rows
abbrev Key:=Sum Int Str
def zGi:Key->Value->Bool
 | .inl k,v=>Value.isInt k v
 | .inr x,v=>Value.isStrOf x v
def zJr (w:World):Key->Int
 | .inl k=>hashInt k
 | .inr x=>hashStr w x
theorem cG:∀ {k:Key} {v:Value},zGi k v=true->(∃ i t,k=Sum.inl i/\v=Value.int i t)∨(∃ x t,k=Sum.inr x/\v=Value.str x t)
 | .inl i,v,h=>by
  obtain ⟨t,e⟩:=Value.isInt_shape (k:=i) (v:=v) h
  exact .inl ⟨i,t,rfl,e⟩
 | .inr x,v,h=>by
  obtain ⟨t,e⟩:=Value.isStrOf_shape (x:=x) (v:=v) h
  exact .inr ⟨x,t,rfl,e⟩
theorem zGp (a b:Int):decide ((Sum.inl a:Key)=Sum.inl b)=(a==b):=by
 by_cases e:a=b
 ·subst e;simp
 ·have h:¬ (Sum.inl a:Key)=Sum.inl b:=fun q=>e (Sum.inl.inj q)
  rw [decide_eq_false h]
  exact (beq_eq_false_iff_ne.mpr e).symm
theorem zGN (a b:Str):decide ((Sum.inr a:Key)=Sum.inr b)=decide (a=b):=by
 by_cases e:a=b
 ·subst e;simp
 ·have h:¬ (Sum.inr a:Key)=Sum.inr b:=fun q=>e (Sum.inr.inj q)
  rw [decide_eq_false h,decide_eq_false e]
theorem zHa (a:Int) (b:Str):decide ((Sum.inl a:Key)=Sum.inr b)=false:=decide_eq_false (fun q=>nomatch q)
theorem zFQ (a:Str) (b:Int):decide ((Sum.inr a:Key)=Sum.inl b)=false:=decide_eq_false (fun q=>nomatch q)
def zBs (prog:Program) (w:World):PySem.KeyKind prog w Key where
 is:=zGi
 hash:=zJr w
 inj:=fun v a b ha hb=>by
  rcases cG ha with ⟨i,t,rfl,rfl⟩ | ⟨x,t,rfl,rfl⟩
  ·rcases cG hb with ⟨j,u,rfl,e⟩ | ⟨y,u,rfl,e⟩
   ·injection e with e1 _;rw [e1]
   ·exact nomatch e
  ·rcases cG hb with ⟨j,u,rfl,e⟩ | ⟨y,u,rfl,e⟩
   ·exact nomatch e
   ·injection e with e1 _;rw [e1]
 byValue:=fun k v h=>by
  rcases cG h with ⟨i,t,rfl,rfl⟩ | ⟨x,t,rfl,rfl⟩<;>rfl
 pyHash:=fun hv h=>by
  rcases cG hv with ⟨i,t,rfl,rfl⟩ | ⟨x,t,rfl,rfl⟩
  ·exact wpAny_pyHash_int h
  ·exact wpAny_pyHash_str h
 eqBool:=fun hu hv h=>by
  rcases cG hu with ⟨i,t,rfl,rfl⟩ | ⟨x,t,rfl,rfl⟩
  ·rcases cG hv with ⟨j,u,rfl,rfl⟩ | ⟨y,u,rfl,rfl⟩
   ·rw [zGp] at h;exact wpAny_eqBool_int h
   ·rw [zHa] at h;exact SeqAt.EqAt.int_str i t y u _ _ _ _ h
  ·rcases cG hv with ⟨j,u,rfl,rfl⟩ | ⟨y,u,rfl,rfl⟩
   ·rw [zFQ] at h;exact SeqAt.EqAt.str_int x t j u _ _ _ _ h
   ·rw [zGN] at h;exact wpAny_eqBool_str h
 «strs» := fun k x t v h=>by
  rcases cG h with ⟨i,u,rfl,e⟩ | ⟨y,u,rfl,e⟩
  ·exact nomatch e
  ·injection e with e1 _
   subst e1
   cases v<;>rfl
end L2
namespace L2
open PySem PySem.Spec PyProof.Rows
inductive V where
 | non | bl (b:Bool) | int (i:Int) | str (x:Str) | byt (b:Array UInt8) | flt (b:UInt64) | ref (a:Addr) | ty (n:String)
 deriving DecidableEq
def cD:V->Value->Prop
 | .non,u=>u=Value.none
 | .bl b,u=>u=Value.bool b
 | .int i,u=>∃ t,u=Value.int i t
 | .str x,u=>∃ t,u=Value.str x t
 | .byt b,u=>∃ t,u=Value.bytes b t
 | .flt b,u=>∃ t,u=Value.float b t
 | .ref a,u=>u=Value.ref a
 | .ty n,u=>u=Value.type n
abbrev cO:List V->List Value->Prop:=Paired cD
theorem cO.length {xs:List V} {us:List Value} (r:cO xs us):xs.length=us.length:=Paired.length r
theorem cO.get:∀ {xs:List V} {us:List Value} {i:Nat} {x:V},cO xs us->xs[i]?=some x->∃ u,us[i]?=some u/\cD x u
 | _,_,_,_,.nil,e=>by simp at e
 | _,_,0,_,.cons r _,e=>by simp at e;subst e;exact ⟨_,rfl,r⟩
 | _,_,i+1,x,.cons _ t,e=>by
  obtain ⟨u,h1,h2⟩:=cO.get (i:=i) (x:=x) t (by simpa using e)
  exact ⟨u,by simpa using h1,h2⟩
theorem cO.set {x:V} {u:Value} (r:cD x u):∀ {xs:List V} {us:List Value} (i:Nat),cO xs us->cO (xs.set i x) (us.set i u)
 | _,_,_,.nil=>.nil
 | _,_,0,.cons _ t=>.cons r t
 | _,_,i+1,.cons q t=>.cons q (cO.set r i t)
theorem cO.append:∀ {xs ys:List V} {us ws:List Value},cO xs us->cO ys ws->cO (xs++ys) (us++ws)
 | _,_,_,_,.nil,s=>s
 | _,_,_,_,.cons r t,s=>.cons r (cO.append t s)
theorem cO.take:∀ {xs:List V} {us:List Value} (n:Nat),cO xs us->cO (xs.take n) (us.take n)
 | _,_,0,_=>.nil
 | _,_,_+1,.nil=>.nil
 | _,_,n+1,.cons r t=>.cons r (cO.take n t)
theorem cO.drop:∀ {xs:List V} {us:List Value} (n:Nat),cO xs us->cO (xs.drop n) (us.drop n)
 | _,_,0,r=>r
 | _,_,_+1,.nil=>.nil
 | _,_,n+1,.cons _ t=>cO.drop n t
def zJo:Option V->Option Value->Prop
 | some v,some u=>cD v u
 | none,none=>True
 | _,_=>False
def KV {κ:Type}:List (κ×V)->List (κ×Value)->Prop:=Paired fun (p:κ×V) (q:κ×Value)=>p.1=q.1/\cD p.2 q.2
def kV:Key->V
 | .inl i=>.int i
 | .inr x=>.str x
inductive HO where
 | lst (xs:List V)
 | tup (xs:List V)
 | dK (kvs:List (Key×V)) | dT (kvs:List (List Key×V))
 | set (S:Int->Bool) (n:Nat)
 | ins (C dx:Addr) (fs:List (Str×V))
 | own (x:Addr)
 | xd (fs:List (Str×V))
 | met (f x:Addr)
 | rng (lo hi:Int)
 | frz (o:Obj) (u:HO)
 | tbl (ps:Array Value)
 | ext (φ:Heap->Prop)
abbrev Hp:=Addr->Option HO
def upd (H:Hp) (a:Addr) (o:HO):Hp:=fun b=>if b=a then some o else H b
theorem aH {H:Hp} {a:Addr} {o:HO}:upd H a o a=some o:=by unfold upd;rw [if_pos rfl]
theorem aO {H:Hp} {a b:Addr} {o:HO} (h:b≠a):upd H a o b=H b:=by unfold upd;rw [if_neg h]
theorem zGQ {H:Hp} {a b:Addr} {o u:HO} (h:H a=some o) (h':H b=some u) (d:o≠u):a≠b:=by
 intro e;subst e;rw [h] at h';exact d (Option.some.inj h')
theorem aR {H:Hp} {a b:Addr} {o:HO} (h:H a=some o) (h':H b=none):a≠b:=by
 intro e;subst e;rw [h] at h';cases h'
section
variable (P:Program) (w:World)
def gO (H:Hp) (h:Heap) (a:Addr):HO->Prop
 | .lst xs=>xs.length<=sizeLine/\∃ (its:List Value) (n:Nat),cO xs its/\h.get? a=some { cls:=.type "list", data:=.seq its.toArray n }
 | .tup xs=>xs.length<=sizeLine/\∃ its:List Value,cO xs its/\IsTup h a its.toArray
 | .dK kvs=>kvs.length<=sizeLine/\(a==sysModules)=false/\∃ vs,KV kvs vs/\h.DictOf (zBs P w) a vs
 | .dT kvs=>kvs.length<=sizeLine/\(a==sysModules)=false/\∃ xs:List (List Key×Addr×Value),
   Paired (fun (p:List Key×V) (q:List Key×Addr×Value)=>p.1=q.1/\H q.2.1=some (.tup (p.1.map kV))/\cD p.2 q.2.2) kvs xs/\
   ∃ o es ep,h.get? a=some o/\o.ExactDict/\o.data=.dict es ep/\es.toList=xs.map (entryOfKey (tupleKind (zBs P w)))/\(xs.map (·.1)).Nodup
 | .set S n=>h.SetOf (intKind P w) a S n
 | .ins C dx fs=>H dx=some (.own a)/\fs.length<=1000/\dx≠a/\h.get? a=some (PySem.W.instObj C dx)/\
   ∃ mA,h.Ns1 dx mA/\(∀ f,zJo (fs.lookup f) (mA f))/\PySem.Within mA (fs.map (·.1))
 | .own _=>∃ o,h.get? a=some o
 | .xd fs=>∃ mA,h.Ns1 a mA/\∀ f,zJo (fs.lookup f) (mA f)
 | .rng lo hi=>∃ t u v,h.get? a=some { cls:=.type "range", data:=.fields #[.int lo t,.int hi u,.int 1 v] }
 | .frz o u=>h.get? a=some o/\gO H h a u
 | .tbl ps=>h.get? a=some { cls:=.none,data:=.fields ps }
 | .met f x=>h.get? a=some (PySem.W.methodObj (.ref f) (.ref x))
 | .ext φ=>φ h/\(∃ o,h.get? a=some o)/\∀ h1 h2:Heap,φ h1->(∀ o,h1.get? a=some o->h2.get? a=some o)->φ h2
def HOk (H:Hp) (h:Heap):Prop:=∀ a o,H a=some o->gO P w H h a o
end
section
variable {P:Program} {w:World} {H H':Hp} {h h':Heap} {a:Addr} {o:HO}
theorem gO.lt (x:gO P w H h a o):a < h.objs.size:=by
 cases o with
 | lst xs=>obtain ⟨_,_,_,_,e⟩:=x;exact Heap.lt_size e
 | tup xs=>obtain ⟨_,_,_,p⟩:=x;exact p.lt
 | dK kvs=>obtain ⟨_,_,_,_,o,_,_,e,_⟩:=x;exact Heap.lt_size e
 | dT kvs=>obtain ⟨_,_,_,_,o,_,_,e,_⟩:=x;exact Heap.lt_size e
 | set S n=>obtain ⟨o,_,_,_,e,_⟩:=x;exact Heap.lt_size e
 | ins C dx fs=>obtain ⟨_,_,_,e,_⟩:=x;exact Heap.lt_size e
 | own y=>obtain ⟨_,e⟩:=x;exact Heap.lt_size e
 | xd fs=>obtain ⟨_,⟨_,_,_,e,_⟩,_⟩:=x;exact Heap.lt_size e
 | rng lo hi=>obtain ⟨_,_,_,e⟩:=x;exact Heap.lt_size e
 | frz ob u=>obtain ⟨e,_⟩:=x;exact Heap.lt_size e
 | tbl ps=>exact Heap.lt_size (show h.get? a=some _ from x)
 | met f y=>exact Heap.lt_size (show h.get? a=some _ from x)
 | ext φ=>obtain ⟨_,⟨_,e⟩,_⟩:=x;exact Heap.lt_size e
theorem Paired.mapP {α β:Type} {F G:α->β->Prop}:∀ {l₁:List α} {l₂:List β},Paired F l₁ l₂->(∀ a b,F a b->G a b)->Paired G l₁ l₂
 | _,_,.nil,_=>.nil
 | _,_,.cons r t,f=>.cons (f _ _ r) (Paired.mapP t f)
theorem gO.stay (x:gO P w H h a o) (k:∀ b u,(b=a∨H b=some (.own a))->h.get? b=some u->h'.get? b=some u)
  (ho:∀ b,H b=some (.own a)->H' b=some (.own a)) (ht:∀ b xs,H b=some (.tup xs)->H' b=some (.tup xs)):gO P w H' h' a o:=by
 induction o with
 | lst xs=>obtain ⟨z,its,n,r,e⟩:=x;exact ⟨z,its,n,r,k _ _ (.inl rfl) e⟩
 | tup xs=>obtain ⟨z,its,r,ob,e,c⟩:=x;exact ⟨z,its,r,ob,k _ _ (.inl rfl) e,c⟩
 | dK kvs=>obtain ⟨z,y,vs,r,ob,es,ep,e,c⟩:=x;exact ⟨z,y,vs,r,ob,es,ep,k _ _ (.inl rfl) e,c⟩
 | dT kvs=>
  obtain ⟨z,y,xs,r,ob,es,ep,e,c⟩:=x
  exact ⟨z,y,xs,Paired.mapP r fun p q z=>⟨z.1,ht _ _ z.2.1,z.2.2⟩,ob,es,ep,k _ _ (.inl rfl) e,c⟩
 | set S n=>obtain ⟨ob,es,ep,t,e,c⟩:=x;exact ⟨ob,es,ep,t,k _ _ (.inl rfl) e,c⟩
 | ins C dx fs=>
  obtain ⟨d,z,ne,e,mA,⟨od,es,ep,e2,c⟩,r⟩:=x
  exact ⟨ho _ d,z,ne,k _ _ (.inl rfl) e,mA,⟨od,es,ep,k _ _ (.inr d) e2,c⟩,r⟩
 | own y=>obtain ⟨ob,e⟩:=x;exact ⟨ob,k _ _ (.inl rfl) e⟩
 | xd fs=>obtain ⟨mA,⟨od,es,ep,e,c⟩,r⟩:=x;exact ⟨mA,⟨od,es,ep,k _ _ (.inl rfl) e,c⟩,r⟩
 | rng lo hi=>obtain ⟨t,u,v,e⟩:=x;exact ⟨t,u,v,k _ _ (.inl rfl) e⟩
 | frz ob u ih=>obtain ⟨e,q⟩:=x;exact ⟨k _ _ (.inl rfl) e,ih q⟩
 | tbl ps=>
  have e:h.get? a=some { cls:=.none,data:=.fields ps }:=x
  show h'.get? a=some { cls:=.none,data:=.fields ps }
  exact k a _ (.inl rfl) e
 | met f y=>
  have e:h.get? a=some (PySem.W.methodObj (.ref f) (.ref y)):=x
  show h'.get? a=some (PySem.W.methodObj (.ref f) (.ref y))
  exact k a _ (.inl rfl) e
 | ext φ=>obtain ⟨p,⟨o,e⟩,st⟩:=x;exact ⟨st _ _ p fun o q=>k _ _ (.inl rfl) q,⟨o,k _ _ (.inl rfl) e⟩,st⟩
theorem HOk.lt (x:HOk P w H h) (e:H a=some o):a < h.objs.size:=(x a o e).lt
theorem HOk.fresh (x:HOk P w H h) (e:h.objs.size<=a):H a=none:=by
 cases q:H a with
 | none=>rfl
 | some u=>exact absurd (Nat.lt_of_lt_of_le (x.lt q) e) (Nat.lt_irrefl _)
theorem HOk.kept (x:HOk P w H h) (k:∀ b u,h.get? b=some u->h'.get? b=some u):HOk P w H h':=fun a o e=>
 (x a o e).stay (fun b u _ q=>k b u q) (fun _ q=>q) fun _ _ q=>q
theorem HOk.laid (x:HOk P w H h) (k:∀ b u,h.get? b=some u->h'.get? b=some u) (hp:h.objs.size<=a) (new:gO P w (upd H a o) h' a o):HOk P w (upd H a o) h':=fun b u e=>by
 have hn:=x.fresh hp
 by_cases hb:b=a
 ·subst hb;rw [aH] at e;cases e;exact new
 ·rw [aO hb] at e
  exact (x b u e).stay (fun c v _ q=>k c v q) (fun c q=>by rw [aO (aR q hn)];exact q) fun c xs q=>by rw [aO (aR q hn)];exact q
end
def Rd (H:Hp) (a:Addr) (u:HO):Prop:=H a=some u∨∃ o,H a=some (.frz o u)
theorem Rd.ok {P:Program} {w:World} {H:Hp} {h:Heap} {a:Addr} {u:HO} (r:Rd H a u) (x:HOk P w H h):gO P w H h a u:=by
 rcases r with r | ⟨o,r⟩
 ·exact x a u r
 ·obtain ⟨_,q⟩:=x a _ r
  exact q
def Mut:Option HO->Prop
 | some (.lst _)=>True
 | some (.dK _)=>True
 | some (.dT _)=>True
 | some (.set _ _)=>True
 | some (.ins _ _ _)=>True
 | some (.ext _)=>True
 | _=>False
section
variable {P:Program} {w:World} {H:Hp} {h h':Heap} {x e:Addr} {o':HO}
theorem HOk.write (ok:HOk P w H h) (mu:Mut (H x)) (he:e=x∨H e=some (.own x)) (k:∀ b u,b≠e->h.get? b=some u->h'.get? b=some u) (heo:∃ u,h'.get? e=some u)
  (new:gO P w (upd H x o') h' x o'):HOk P w (upd H x o') h':=fun b u q=>by
 have nown:∀ c y,H c=some (.own y)->c≠x:=fun c y r z=>by subst z;rw [r] at mu;exact mu
 have ntup:∀ c xs,H c=some (.tup xs)->c≠x:=fun c xs r z=>by subst z;rw [r] at mu;exact mu
 by_cases hb:b=x
 ·subst hb;rw [aH] at q;cases q;exact new
 ·rw [aO hb] at q
  by_cases hbe:b=e
  ·have q':H b=some (.own x):=by
    rcases he with z | z
    ·exact absurd (hbe.trans z) hb
    ·rw [hbe];exact z
   rw [q] at q';cases q'
   obtain ⟨v,hv⟩:=heo
   exact ⟨v,by rw [hbe];exact hv⟩
  ·refine (ok b u q).stay (fun c v hc r=>k c v ?_ r) (fun c r=>by rw [aO (nown c b r)];exact r) fun c xs r=>by rw [aO (ntup c xs r)];exact r
   rcases hc with rfl | hc
   ·exact hbe
   ·rintro rfl
    rcases he with z | z
    ·exact nown c b hc z
    ·rw [hc] at z;cases z;exact hb rfl
end
structure Un (fs ex:List Addr) (H H':Hp) (h h':Heap):Prop where
 keep:∀ b o,h.get? b=some o->H b=none->b∉fs->b∉ex->h'.get? b=some o
 slot:∀ b o,h.get? b=some o->H b=none->b∈fs->b∉ex->∃ sl,h'.get? b=some { o with slots:=sl }
 free:∀ b o,h.get? b=some o->H b=none->b∉ex->H' b=none
 there:∀ b o,h.get? b=some o->b∉ex->∃ o',h'.get? b=some o'
 tups:∀ b xs,H b=some (.tup xs)->H' b=some (.tup xs)
 frzs:∀ b o u,H b=some (.frz o u)->H' b=some (.frz o u)
 tbls:∀ b ps,H b=some (.tbl ps)->∃ more,H' b=some (.tbl (ps++more))
section
variable {fs fs' ex ex':List Addr} {H H1 H2:Hp} {h h1 h2 h':Heap} {a x e:Addr} {o:HO}
theorem Un.any (u:Un fs ex H H1 h h1) {b:Addr} {ob:Obj} (q:h.get? b=some ob) (n:H b=none) (hx:b∉ex):∃ sl,h1.get? b=some { ob with slots:=sl }:=by
 by_cases hb:b∈fs
 ·exact u.slot b ob q n hb hx
 ·exact ⟨ob.slots,u.keep b ob q n hb hx⟩
theorem Un.kept (k:∀ b u,h.get? b=some u->h'.get? b=some u):Un fs ex H H h h':=
 ⟨fun b ob q _ _ _=>k b ob q,fun b ob q _ _ _=>⟨ob.slots,k b ob q⟩,fun _ _ _ n _=>n,fun b ob q _=>⟨ob,k b ob q⟩,fun _ _ q=>q,fun _ _ _ q=>q,fun _ ps q=>⟨#[],by rw [q];simp⟩⟩
theorem Un.refl:Un fs ex H H h h:=Un.kept fun _ _ q=>q
theorem Un.laid (k:∀ b u,h.get? b=some u->h'.get? b=some u) (hp:h.objs.size<=a) (hn:H a=none):Un fs ex H (upd H a o) h h' where
 keep:=fun b u q _ _ _=>k b u q
 slot:=fun b u q _ _ _=>⟨u.slots,k b u q⟩
 free:=fun b u q n _=>by rw [aO (Nat.ne_of_lt (Nat.lt_of_lt_of_le (Heap.lt_size q) hp))];exact n
 there:=fun b u q _=>⟨u,k b u q⟩
 tups:=fun b xs q=>by rw [aO (aR q hn)];exact q
 frzs:=fun b u xs q=>by rw [aO (aR q hn)];exact q
 tbls:=fun b ps q=>⟨#[],by rw [aO (aR q hn),q];simp⟩
theorem Un.write (mu:Mut (H x)) (he:e=x∨H e=some (.own x)) (k:∀ b u,b≠e->h.get? b=some u->h'.get? b=some u) (heo:∃ u,h'.get? e=some u):Un fs ex H (upd H x o) h h':=by
 have hx:∀ b,H b=none->b≠x:=fun b n z=>by subst z;rw [n] at mu;exact mu
 have hb:∀ b,H b=none->b≠e:=fun b n z=>by
  subst z
  rcases he with r | r
  ·exact hx b n r
  ·rw [n] at r;cases r
 have hm:∀ b u,H b=some u->¬ Mut (some u)->b≠x:=fun b u q nm z=>by subst z;rw [q] at mu;exact nm mu
 refine ⟨fun b u q n _ _=>k b u (hb b n) q,fun b u q n _ _=>⟨u.slots,k b u (hb b n) q⟩,fun b u q n _=>by rw [aO (hx b n)];exact n,fun b u q _=>?_,
  fun b xs q=>by rw [aO (hm b _ q fun z=>z)];exact q,fun b u xs q=>by rw [aO (hm b _ q fun z=>z)];exact q,fun b ps q=>⟨#[],by rw [aO (hm b _ q fun z=>z),q];simp⟩⟩
 by_cases hbe:b=e
 ·subst hbe;exact heo
 ·exact ⟨u,k b u hbe q⟩
end
def trk (h:Heap) (H:Hp):List Addr:=(List.range h.objs.size).filter fun a=>(H a).isSome
def zBL (h:Heap) (H:Hp):Heap:=PySem.W.hideAll h (trk h H)
theorem zAI (h:Heap) (H:Hp):(zBL h H).objs.size=h.objs.size:=PySem.W.hideAll_size _ _
theorem zCz {h:Heap} {H:Hp} {b:Addr} {o:Obj} (e:h.get? b=some o) (n:H b=none):(zBL h H).get? b=some o:=
 PySem.W.hideAll_get _ e fun hm=>by
  have q:(H b).isSome=true:=(List.mem_filter.mp hm).2
  rw [n] at q;simp at q
theorem zEb {h:Heap} {H:Hp} {b:Addr} {o:Obj} (e:(zBL h H).get? b=some o):h.get? b=some o/\H b=none:=by
 have e':h.get? b=some o:=PySem.W.of_hideAll (trk h H) e
 refine ⟨e',?_⟩
 cases q:H b with
 | none=>rfl
 | some x=>
  have hm:b∈trk h H:=List.mem_filter.mpr ⟨List.mem_range.mpr (Heap.lt_size e'),by simp [q]⟩
  have z:(zBL h H).get? b=none:=PySem.W.hideAll_none (trk h H) hm
  rw [z] at e;cases e
def zEP (g h:Heap) (L:Addr):List (Addr×Obj):=(List.range h.objs.size).filterMap fun a=>if a=L∨(g.get? a).isSome=true then none else (h.get? a).map fun o=>(a,o)
def rest (g h:Heap) (L d:Addr):List (Addr×Obj):=(zEP g h L).filter fun p=>decide (p.1≠d)
end L2
namespace L2
open PySem PySem.Spec PyProof.Rows
structure Mod (K:PySem.W.Frag) (mg:Str->Option Value) (base:Heap):Prop where
 kin:K.In base
 glob:base.Ns mainGlobals mg
 blt:∃ mb,base.Ns builtinsNs mb/\∀ x:Str,x ≠ "__name__" -> mb x=bootBuiltins x
 nolimit:base.NoLimit
structure Cx where
 prog:Program
 w:World
 K:PySem.W.Frag
 mg:Str->Option Value
 base:Heap
 A:Around
 N:List Str
 s₀:Shared
 H₀:Hp
 env:Env
 outer:List Env
 stack:List Env
 ex:List Addr
 fn:Str->Bool
 calm:Bool
 pn:List (Addr×Obj)
 xe:Value->Shared->Prop
def frs (l:List Env):List Addr:=l.filterMap (·.frame)
abbrev Cx.fs (X:Cx):List Addr:=frs X.outer
def Vis (sc:Scope) (x:Str):Prop:=sc.names.lookup x=some .local∨sc.names.lookup x=some .cell∨sc.names.lookup x=some .free
def Loc (sc:Scope) (x:Str):Prop:=sc.names.lookup x=some .local∨sc.names.lookup x=some .cell
def zJO (env:Env) (h:Heap) (m:Str->Option Value) (x:Str) (u:Value):Prop:=
 (env.kindOf x=some .local/\m x=some u)∨((env.kindOf x=some .cell∨env.kindOf x=some .free)/\∃ c,env.cells.lookup x=some c/\h.IsCell c (some u))
structure Cx.Ok (X:Cx):Prop where
 mod:Mod X.K X.mg X.base
 kind:X.env.scope.kind=.function
 glob:X.env.globals=mainGlobals
 blt:X.env.builtins=builtinsNs
 above:X.s₀.heap.objs.size<=X.env.locals
 inj:∀ x y c,X.env.cells.lookup x=some c->X.env.cells.lookup y=some c->x=y
 has:∀ x,(X.env.kindOf x=some .cell∨X.env.kindOf x=some .free)->∃ c,X.env.cells.lookup x=some c
 cab:∀ x c,X.fn x=true->X.env.cells.lookup x=some c->X.s₀.heap.objs.size<=c
 hd:X.calm=true->X.A.handled=none
 frames:X.A.frames=some X.stack
 stk:X.stack=X.outer∨(X.stack=X.env::X.outer/\X.env.frame=some X.env.locals)
 exf:∀ b∈X.ex,b≠X.env.locals/\∀ x c,X.env.cells.lookup x=some c->c≠b
 bs:∀ b o,X.base.get? b=some o->X.s₀.heap.get? b=some o/\X.H₀ b=none
 bsz:X.base.objs.size<=X.s₀.heap.objs.size
 noex:∀ b o,X.base.get? b=some o->b∉X.ex
 exfs:∀ b∈X.ex,b∉X.fs
 funs:X.s₀.heap.FunFrames X.base X.outer
 frf:∀ b∈X.fs,X.H₀ b=none
structure Inv (X:Cx) (pins:List (Addr×Obj)) (σ:List (Option V)) (H:Hp) (s:Shared):Prop where
 ok:X.Ok
 os:s.os=X.s₀.os
 bare:AllBare s.gens
 base:Un X.fs X.ex X.H₀ H X.s₀.heap s.heap
 loc:∃ m,s.heap.Ns X.env.locals m/\∀ (i:Nat) (x:Str) (v:V),X.N[i]?=some x->σ[i]?=some (some v)->Vis X.env.scope x->∃ u,cD v u/\zJO X.env s.heap m x u
 cell:∀ x c,X.env.cells.lookup x=some c->∃ v,s.heap.IsCell c v
 free:H X.env.locals=none
 freeC:∀ x c,X.env.cells.lookup x=some c->H c=none
 pin:∀ p∈X.pn++pins,s.heap.get? p.1=some p.2/\H p.1=none/\p.1≠X.env.locals/\p.1∉X.fs/\∀ v,p.2.data≠.cell v
 hok:HOk X.prog X.w H s.heap
 len:σ.length=X.N.length
section
variable {X:Cx} {pins:List (Addr×Obj)} {σ:List (Option V)} {H H':Hp} {s:Shared} {h':Heap}
theorem Cx.Ok.nofr (ok:X.Ok) {b:Addr} {o:Obj} (e:X.base.get? b=some o):b∉X.fs:=fun hb=>by
 have:=(ok.funs.mem hb).1
 rw [e] at this;cases this
theorem Inv.bs (I:Inv X pins σ H s):∀ b o,X.base.get? b=some o->s.heap.get? b=some o/\H b=none:=fun b o e=>
 ⟨I.base.keep b o (I.ok.bs b o e).1 (I.ok.bs b o e).2 (I.ok.nofr e) (I.ok.noex b o e),I.base.free b o (I.ok.bs b o e).1 (I.ok.bs b o e).2 (I.ok.noex b o e)⟩
theorem Inv.bk (I:Inv X pins σ H s):∀ b o,X.base.get? b=some o->s.heap.get? b=some o:=fun b o e=>(I.bs b o e).1
theorem Inv.mod (I:Inv X pins σ H s):Mod X.K X.mg X.base:=I.ok.mod
theorem Inv.kIn (I:Inv X pins σ H s):X.K.In s.heap:=I.ok.mod.kin.keeps I.bk
theorem Inv.lt (I:Inv X pins σ H s):X.env.locals < s.heap.objs.size:=let ⟨_,hn,_⟩:=I.loc;hn.lt
theorem Inv.sz (I:Inv X pins σ H s):X.s₀.heap.objs.size<=s.heap.objs.size:=Nat.le_trans I.ok.above (Nat.le_of_lt I.lt)
theorem Inv.nofs (I:Inv X pins σ H s) {a:Addr} (h:s.heap.objs.size<=a):a∉X.fs:=fun hb=>by
 obtain ⟨_,o,ho,_⟩:=I.ok.funs.mem hb
 exact absurd (Nat.lt_of_lt_of_le (Heap.lt_size ho) (Nat.le_trans I.sz h)) (Nat.lt_irrefl _)
theorem Inv.cne (I:Inv X pins σ H s):∀ x c,X.env.cells.lookup x=some c->c≠X.env.locals:=fun x c e z=>by
 obtain ⟨v,o,ho,hd⟩:=I.cell x c e
 obtain ⟨m,⟨o',es,ep,ho',hd',_⟩,_⟩:=I.loc
 rw [z,ho'] at ho;cases ho;rw [hd'] at hd;cases hd
theorem Inv.funs (I:Inv X pins σ H s):s.heap.FunFrames X.base X.outer:=by
 have all:∀ (l:List Env),(∀ b∈frs l,b∈X.fs)->X.s₀.heap.FunFrames X.base l->s.heap.FunFrames X.base l:=by
  intro l
  induction l with
  | nil=>intro _ _;trivial
  | cons env r ih=>
   intro hs hl
   obtain ⟨hk,⟨L,o,hf,hn,ho,hd⟩,hr⟩:=hl
   have hL:L∈X.fs:=hs L (by unfold frs;rw [List.filterMap_cons,hf];exact List.mem_cons_self)
   obtain ⟨sl,e⟩:=I.base.slot L o ho (I.ok.frf L hL) hL fun z=>I.ok.exfs L z hL
   exact ⟨hk,⟨L,_,hf,hn,e,hd⟩,ih (fun b hb=>hs b (by unfold frs;rw [List.filterMap_cons,hf];exact List.mem_cons_of_mem _ hb)) hr⟩
 exact all X.outer (fun _ hb=>hb) I.ok.funs
theorem Inv.stack (I:Inv X pins σ H s):s.heap.FunFrames X.base X.stack:=by
 rcases I.ok.stk with e | ⟨e,hf⟩
 ·rw [e];exact I.funs
 ·rw [e]
  obtain ⟨m,hn,_⟩:=I.loc
  refine .cons (by rw [I.ok.kind];decide) hf hn ?_ I.funs
  exact Heap.get?_none_of_le (Nat.le_trans I.ok.bsz I.ok.above)
theorem Inv.stkSub (I:Inv X pins σ H s):∀ b∈frs X.stack,b∈X.env.locals::X.fs:=fun b hb=>by
 rcases I.ok.stk with e | ⟨e,hf⟩
 ·rw [e] at hb;exact List.mem_cons_of_mem _ hb
 ·rw [e] at hb
  unfold frs at hb
  rw [List.filterMap_cons,hf] at hb
  exact hb
theorem Inv.stkFree (I:Inv X pins σ H s):∀ b∈frs X.stack,H b=none:=fun b hb=>by
 rcases List.mem_cons.mp (I.stkSub b hb) with e | hb
 ·rw [e];exact I.free
 ·obtain ⟨_,o,ho,_⟩:=I.ok.funs.mem hb
  exact I.base.free b o ho (I.ok.frf b hb) fun z=>I.ok.exfs b z hb
theorem Inv.step {g':Array GenState} {t':Nat} {d':Drawn} {ch:List Addr} (I:Inv X pins σ H s)
  (hch:∀ b∈ch,(b∈X.ex∨X.s₀.heap.objs.size<=b)/\b≠X.env.locals/\(∀ x c,X.env.cells.lookup x=some c->c≠b)/\∀ p∈X.pn++pins,p.1≠b)
  (keep:∀ b o,b≠X.env.locals->b∉X.fs->b∉ch->s.heap.get? b=some o->H b=none->h'.get? b=some o)
  (slot:∀ b o,b≠X.env.locals->b∈X.fs->b∉ch->s.heap.get? b=some o->H b=none->∃ sl,h'.get? b=some { o with slots:=sl }) (free:∀ b o,b∉ch->s.heap.get? b=some o->H b=none->H' b=none)
  (there:∀ b o,b∉ch->s.heap.get? b=some o->∃ o',h'.get? b=some o')
  (tups:∀ b xs,H b=some (.tup xs)->H' b=some (.tup xs)) (frzs:∀ b o u,H b=some (.frz o u)->H' b=some (.frz o u)) (tbls:∀ b ps,H b=some (.tbl ps)->∃ more,H' b=some (.tbl (ps++more)))
  (ns:∀ m,s.heap.Ns X.env.locals m->h'.Ns X.env.locals m) (hok:HOk X.prog X.w H' h') (hg:AllBare g'):
  Inv X pins σ H' { s with heap:=h',gens:=g',drawn:=d',toks:=t' }:=by
 have neL:∀ b o,X.s₀.heap.get? b=some o->b≠X.env.locals:=fun b o e=>Nat.ne_of_lt (Nat.lt_of_lt_of_le (Heap.lt_size e) I.ok.above)
 have neC:∀ b o,X.s₀.heap.get? b=some o->b∉X.ex->b∉ch:=fun b o e hx hb=>by
  rcases (hch b hb).1 with z | z
  ·exact hx z
  ·exact absurd (Nat.lt_of_lt_of_le (Heap.lt_size e) z) (Nat.lt_irrefl _)
 have cellK:∀ x c,X.env.cells.lookup x=some c->∀ v,s.heap.IsCell c v->h'.IsCell c v:=fun x c e v ⟨o,ho,hd⟩=>by
  have nch:c∉ch:=fun z=>(hch c z).2.2.1 x c e rfl
  by_cases hc:c∈X.fs
  ·obtain ⟨sl,q⟩:=slot c o (I.cne x c e) hc nch ho (I.freeC x c e)
   exact ⟨_,q,hd⟩
  ·exact ⟨o,keep c o (I.cne x c e) hc nch ho (I.freeC x c e),hd⟩
 refine ⟨I.ok,I.os,hg,⟨fun b o e n hb hx=>?_,fun b o e n hb hx=>?_,fun b o e n hx=>?_,fun b o e hx=>?_,fun b xs e=>tups b xs (I.base.tups b xs e),fun b o xs e=>frzs b o xs (I.base.frzs b o xs e),fun b ps e=>?_⟩,?_,fun x c e=>?_,?_,fun x c e=>?_,fun p hp=>?_,hok,I.len⟩
 ·exact keep b o (neL b o e) hb (neC b o e hx) (I.base.keep b o e n hb hx) (I.base.free b o e n hx)
 ·obtain ⟨sl,e1⟩:=I.base.slot b o e n hb hx
  obtain ⟨sl',e2⟩:=slot b _ (neL b o e) hb (neC b o e hx) e1 (I.base.free b o e n hx)
  exact ⟨sl',e2⟩
 ·obtain ⟨o',e1⟩:=I.base.there b o e hx
  exact free b o' (neC b o e hx) e1 (I.base.free b o e n hx)
 ·obtain ⟨o',e1⟩:=I.base.there b o e hx
  exact there b o' (neC b o e hx) e1
 ·obtain ⟨m1,e1⟩:=I.base.tbls b ps e
  obtain ⟨m2,e2⟩:=tbls b _ e1
  exact ⟨m1++m2,by rw [e2,Array.append_assoc]⟩
 ·obtain ⟨m,hn,hl⟩:=I.loc
  refine ⟨m,ns m hn,fun i x v e1 e2 e3=>?_⟩
  obtain ⟨u,r,l⟩:=hl i x v e1 e2 e3
  refine ⟨u,r,?_⟩
  rcases l with l | ⟨k,c,e,z⟩
  ·exact .inl l
  ·exact .inr ⟨k,c,e,cellK x c e _ z⟩
 ·obtain ⟨v,z⟩:=I.cell x c e
  exact ⟨v,cellK x c e v z⟩
 ·obtain ⟨m,⟨o,_,_,ho,_⟩,_⟩:=I.loc
  exact free _ o (fun z=>(hch _ z).2.1 rfl) ho I.free
 ·obtain ⟨v,o,ho,hd⟩:=I.cell x c e
  exact free c o (fun z=>(hch c z).2.2.1 x c e rfl) ho (I.freeC x c e)
 ·obtain ⟨e,n,ne,nf,d⟩:=I.pin p hp
  have nch:p.1∉ch:=fun z=>(hch p.1 z).2.2.2 p hp rfl
  exact ⟨keep p.1 p.2 ne nf nch e n,free p.1 p.2 nch e n,ne,nf,d⟩
theorem Inv.un {t':Nat} (I:Inv X pins σ H s) (u:Un X.fs [] H H' s.heap h') (hok:HOk X.prog X.w H' h'):Inv X pins σ H' { s with heap:=h',toks:=t' }:=by
 obtain ⟨m,⟨o,es,ep,ho,r⟩,_⟩:=id I.loc
 obtain ⟨sl,hL⟩:=u.any ho I.free (by simp)
 exact I.step (g':=s.gens) (d':=s.drawn) (ch:=[]) (fun _ z=>nomatch z) (fun b o _ hb _ e n=>u.keep b o e n hb (by simp)) (fun b o _ hb _ e n=>u.slot b o e n hb (by simp)) (fun b o _ e n=>u.free b o e n (by simp)) (fun b o _ e=>u.there b o e (by simp)) u.tups u.frzs u.tbls (fun m' hm=>by
  obtain ⟨o',es',ep',ho',r'⟩:=hm
  rw [ho] at ho';cases ho'
  exact ⟨_,es',ep',hL,r'⟩) hok I.bare
theorem Inv.call {g':Array GenState} {t':Nat} {d':Drawn} {ch:List Addr} (I:Inv X pins σ H s) (u:Un (frs X.stack) ch H H' s.heap h') (hok:HOk X.prog X.w H' h') (hg:AllBare g')
  (hch:∀ b∈ch,(b∈X.ex∨X.s₀.heap.objs.size<=b)/\b≠X.env.locals/\(∀ x c,X.env.cells.lookup x=some c->c≠b)/\∀ p∈X.pn++pins,p.1≠b):
  Inv X pins σ H' { s with heap:=h',gens:=g',drawn:=d',toks:=t' }:=by
 obtain ⟨m,⟨o,es,ep,ho,r⟩,_⟩:=id I.loc
 obtain ⟨sl,hL⟩:=u.any ho I.free fun z=>(hch _ z).2.1 rfl
 exact I.step (ch:=ch) hch (fun b o hL hb hc e n=>u.keep b o e n (fun z=>(List.mem_cons.mp (I.stkSub b z)).elim hL hb) hc) (fun b o _ _ hc e n=>u.any e n hc) (fun b o hc e n=>u.free b o e n hc) (fun b o hc e=>u.there b o e hc) u.tups u.frzs u.tbls (fun m' hm=>by
  obtain ⟨o',es',ep',ho',r'⟩:=hm
  rw [ho] at ho';cases ho'
  exact ⟨_,es',ep',hL,r'⟩) hok hg
theorem Inv.turned {t':Nat} {it:Addr} (I:Inv X pins σ H s) (k:∀ b o,b≠it->s.heap.get? b=some o->h'.get? b=some o) (hn:H it=none) (hL:it≠X.env.locals)
  (h1:it∈X.ex∨X.s₀.heap.objs.size<=it) (h2:∀ x c,X.env.cells.lookup x=some c->c≠it) (h3:∀ p∈X.pn++pins,p.1≠it):Inv X pins σ H { s with heap:=h',toks:=t' }:=by
 have nit:∀ b u,H b=some u->b≠it:=fun b u e z=>by rw [z,hn] at e;cases e
 refine I.step (g':=s.gens) (d':=s.drawn) (ch:=[it]) (fun b hb=>?_) (fun b o _ _ hc e _=>k b o (fun z=>hc (by simp [z])) e) (fun b o _ _ hc e _=>⟨o.slots,k b o (fun z=>hc (by simp [z])) e⟩) (fun _ _ _ _ n=>n)
  (fun b o hc e=>⟨o,k b o (fun z=>hc (by simp [z])) e⟩) (fun _ _ e=>e) (fun _ _ _ e=>e) (fun b ps e=>⟨#[],by rw [e];simp⟩) (fun m hm=>?_) (fun b u e=>?_) I.bare
 ·have e:b=it:=by simpa using hb
  subst e
  exact ⟨h1,hL,h2,h3⟩
 ·obtain ⟨o,es,ep,ho,r⟩:=hm
  exact ⟨o,es,ep,k _ o (Ne.symm hL) ho,r⟩
 ·refine (I.hok b u e).stay (fun c v hc q=>k c v ?_ q) (fun _ q=>q) fun _ _ q=>q
  rcases hc with z | z
  ·rw [z];exact nit b u e
  ·exact nit c _ z
theorem Inv.tok (I:Inv X pins σ H s) (t:Nat):Inv X pins σ H { s with toks:=t }:=I.un (h':=s.heap) (t':=t) Un.refl I.hok
theorem Inv.kept {t':Nat} (I:Inv X pins σ H s) (k:∀ b u,s.heap.get? b=some u->h'.get? b=some u):Inv X pins σ H { s with heap:=h',toks:=t' }:=I.un (Un.kept k) (I.hok.kept k)
theorem Inv.laid {a:Addr} {o:HO} {t':Nat} (I:Inv X pins σ H s) (k:∀ b u,s.heap.get? b=some u->h'.get? b=some u) (hp:s.heap.objs.size<=a) (new:gO X.prog X.w (upd H a o) h' a o):
  Inv X pins σ (upd H a o) { s with heap:=h',toks:=t' }:=I.un (Un.laid k hp (I.hok.fresh hp)) (I.hok.laid k hp new)
theorem Inv.write {x e:Addr} {o:HO} {t':Nat} (I:Inv X pins σ H s) (mu:Mut (H x)) (he:e=x∨H e=some (.own x)) (k:∀ b u,b≠e->s.heap.get? b=some u->h'.get? b=some u) (heo:∃ u,h'.get? e=some u)
  (new:gO X.prog X.w (upd H x o) h' x o):Inv X pins σ (upd H x o) { s with heap:=h',toks:=t' }:=I.un (Un.write mu he k heo) (I.hok.write mu he k heo new)
theorem Inv.pins_of {pins':List (Addr×Obj)} (I:Inv X pins σ H s) (h:∀ p∈pins',s.heap.get? p.1=some p.2/\H p.1=none/\p.1≠X.env.locals/\p.1∉X.fs/\∀ v,p.2.data≠.cell v):Inv X pins' σ H s:=
 ⟨I.ok,I.os,I.bare,I.base,I.loc,I.cell,I.free,I.freeC,fun p hp=>(List.mem_append.mp hp).elim (fun z=>I.pin p (List.mem_append_left _ z)) (h p),I.hok,I.len⟩
theorem qL {N:List Str} (hN:N.Nodup) {i j:Nat} {x:Str} (a:N[i]?=some x) (b:N[j]?=some x):i=j:=by
 obtain ⟨h1,e1⟩:=List.getElem?_eq_some_iff.mp a
 obtain ⟨h2,e2⟩:=List.getElem?_eq_some_iff.mp b
 exact (List.getElem_inj hN).mp (e1.trans e2.symm)
theorem zAX {M:Model} {A:Around} {E:Value->Shared->Prop} {i:Nat} {x:Str} {v:V} {u:Value} {Q:Unit->Shared->Prop} (I:Inv X pins σ H s) (hN:X.N.Nodup) (hi:X.N[i]?=some x) (hx:Loc X.env.scope x) (r:cD v u)
  (h:∀ s',Inv X pins (σ.set i (some v)) H s'->(∃ a,Heap.SameBut a s.heap s'.heap/\(a=X.env.locals∨X.env.cells.lookup x=some a))->Q () s') (hf:X.fn x=true∨X.env.scope.names.lookup x=some .local:=by first | exact .inl rfl | exact .inr rfl | assumption):wpAny M A (storeName X.env x u) Q E s:=by
 obtain ⟨m,hn,hl⟩:=id I.loc
 have hcls:(X.env.scope.kind==.class || (X.env.scope.kind==.module && X.env.locals != X.env.globals))=false:=by rw [I.ok.kind];rfl
 have hiσ:i < σ.length:=by rw [I.len];exact (List.getElem?_eq_some_iff.mp hi).1
 have cne:=I.cne
 have tracked:∀ {a:Addr} {h':Heap},(∃ o,s.heap.get? a=some o/\H a=none)->Heap.SameBut a s.heap h'->HOk X.prog X.w H h':=fun {a h'} ha hs b ob e=>by
  obtain ⟨_,_,hfree⟩:=ha
  refine (I.hok b ob e).stay (fun c w' hc q=>(hs.2 c ?_).trans q) (fun _ q=>q) fun _ _ q=>q
  rintro rfl
  rcases hc with rfl | hc
  ·rw [hfree] at e;cases e
  ·rw [hfree] at hc;cases hc
 rcases hx with hk | hk
 ·refine wpAny_storeName_local hk hn (fun h' hn' hs=>?_) hcls
  obtain ⟨oL,_,_,hoL,_⟩:=id hn
  refine h _ ⟨I.ok,I.os,I.bare,⟨fun b o e n hb hx=>?_,fun b o e n hb hx=>?_,I.base.free,fun b o e hx=>?_,I.base.tups,I.base.frzs,I.base.tbls⟩,⟨_,hn',fun j y v' e1 e2 e3=>?_⟩,fun y c e=>?_,I.free,I.freeC,fun p hp=>?_,tracked ⟨oL,hoL,I.free⟩ hs,by simpa using I.len⟩ ⟨_,hs,.inl rfl⟩
  ·exact (hs.2 b (Nat.ne_of_lt (Nat.lt_of_lt_of_le (Heap.lt_size e) I.ok.above))).trans (I.base.keep b o e n hb hx)
  ·obtain ⟨sl,e1⟩:=I.base.slot b o e n hb hx
   exact ⟨sl,(hs.2 b (Nat.ne_of_lt (Nat.lt_of_lt_of_le (Heap.lt_size e) I.ok.above))).trans e1⟩
  ·obtain ⟨o',e1⟩:=I.base.there b o e hx
   exact ⟨o',(hs.2 b (Nat.ne_of_lt (Nat.lt_of_lt_of_le (Heap.lt_size e) I.ok.above))).trans e1⟩
  ·by_cases hj:j=i
   ·subst hj
    rw [hi] at e1;cases e1
    rw [List.getElem?_set_self hiσ] at e2
    cases e2
    exact ⟨u,r,.inl ⟨hk,by simp⟩⟩
   ·rw [List.getElem?_set_ne (Ne.symm hj)] at e2
    obtain ⟨u',r',q⟩:=hl j y v' e1 e2 e3
    refine ⟨u',r',?_⟩
    rcases q with ⟨k,e⟩ | ⟨k,c,e,z⟩
    ·refine .inl ⟨k,?_⟩
     have:y≠x:=fun e=>hj (qL hN e1 (e ▸ hi))
     simp [this,e]
    ·exact .inr ⟨k,c,e,z.sameBut hs (cne y c e)⟩
  ·obtain ⟨w',z⟩:=I.cell y c e
   exact ⟨w',z.sameBut hs (cne y c e)⟩
  ·obtain ⟨e,n,ne,nf,d⟩:=I.pin p hp
   exact ⟨(hs.2 p.1 ne).trans e,n,ne,nf,d⟩
 ·have hfn:X.fn x=true:=by
   rcases hf with z | z
   ·exact z
   ·rw [z] at hk;cases hk
  obtain ⟨c,hc⟩:=I.ok.has x (.inl hk)
  obtain ⟨w',z⟩:=I.cell x c hc
  refine wpAny_storeName_cell I.ok.kind hk hc z (fun h' hc' hs=>?_)
  obtain ⟨oc,hoc,hocd⟩:=id z
  refine h { s with heap:=h' } ⟨I.ok,I.os,I.bare,⟨fun b o e n hb hx=>?_,fun b o e n hb hx=>?_,I.base.free,fun b o e hx=>?_,I.base.tups,I.base.frzs,I.base.tbls⟩,⟨m,hn.sameBut hs (Ne.symm (cne x c hc)),fun j y v' e1 e2 e3=>?_⟩,fun y c' e=>?_,I.free,I.freeC,fun p hp=>?_,tracked ⟨oc,hoc,I.freeC x c hc⟩ hs,by simpa using I.len⟩ ⟨c,hs,.inr hc⟩
  ·exact (hs.2 b (Nat.ne_of_lt (Nat.lt_of_lt_of_le (Heap.lt_size e) (I.ok.cab x c hfn hc)))).trans (I.base.keep b o e n hb hx)
  ·obtain ⟨sl,e1⟩:=I.base.slot b o e n hb hx
   exact ⟨sl,(hs.2 b (Nat.ne_of_lt (Nat.lt_of_lt_of_le (Heap.lt_size e) (I.ok.cab x c hfn hc)))).trans e1⟩
  ·obtain ⟨o',e1⟩:=I.base.there b o e hx
   exact ⟨o',(hs.2 b (Nat.ne_of_lt (Nat.lt_of_lt_of_le (Heap.lt_size e) (I.ok.cab x c hfn hc)))).trans e1⟩
  ·by_cases hj:j=i
   ·subst hj
    rw [hi] at e1;cases e1
    rw [List.getElem?_set_self hiσ] at e2
    cases e2
    exact ⟨u,r,.inr ⟨.inl hk,c,hc,hc'⟩⟩
   ·rw [List.getElem?_set_ne (Ne.symm hj)] at e2
    obtain ⟨u',r',q⟩:=hl j y v' e1 e2 e3
    refine ⟨u',r',?_⟩
    rcases q with q | ⟨k,c',e,z'⟩
    ·exact .inl q
    ·refine .inr ⟨k,c',e,z'.sameBut hs ?_⟩
     rintro rfl
     exact hj (qL hN e1 (I.ok.inj _ _ _ e hc ▸ hi))
  ·by_cases hcc:c'=c
   ·subst hcc;exact ⟨_,hc'⟩
   ·obtain ⟨w2,z2⟩:=I.cell y c' e
    exact ⟨w2,z2.sameBut hs hcc⟩
  ·obtain ⟨e,n,ne,nf,d⟩:=I.pin p hp
   refine ⟨(hs.2 p.1 ?_).trans e,n,ne,nf,d⟩
   intro q
   rw [q,hoc] at e
   have q':oc=p.2:=Option.some.inj e
   exact d w' (by rw [<-q'];exact hocd)
theorem fY {M:Model} {A:Around} {E:Value->Shared->Prop} {i:Nat} {x:Str} {v:V} {u:Value} {Q:Unit->Shared->Prop} (I:Inv X pins σ H s) (hN:X.N.Nodup) (hi:X.N[i]?=some x) (hx:Loc X.env.scope x) (r:cD v u)
  (h:∀ s',Inv X pins (σ.set i (some v)) H s'->Q () s') (hf:X.fn x=true∨X.env.scope.names.lookup x=some .local:=by first | exact .inl rfl | exact .inr rfl | assumption):wpAny M A (storeName X.env x u) Q E s:=
 zAX I hN hi hx r (fun s' I' _=>h s' I') hf
theorem Inv.call' {s':Shared} {ch:List Addr} (I:Inv X pins σ H s) (ho:s'.os=s.os) (u:Un (frs X.stack) ch H H' s.heap s'.heap) (hok:HOk X.prog X.w H' s'.heap) (hg:AllBare s'.gens)
  (hch:∀ b∈ch,(b∈X.ex∨X.s₀.heap.objs.size<=b)/\b≠X.env.locals/\(∀ x c,X.env.cells.lookup x=some c->c≠b)/\∀ p∈X.pn++pins,p.1≠b):Inv X pins σ H' s':=by
 obtain ⟨h',g',d',t',o'⟩:=s'
 have e:o'=s.os:=ho
 subst e
 exact I.call (g':=g') (t':=t') (d':=d') u hok hg hch
end
abbrev XK:=Value->Option Addr->Hp->Prop
abbrev St:=List (Option V)
abbrev VK:=V->Hp->Prop
abbrev TE:=St->Hp->VK->Prop
abbrev TT:=St->Hp->(Bool->Hp->Prop)->Prop
abbrev TA:=St->Hp->(List V->Hp->Prop)->Prop
structure Ends where
 nx:St->Hp->Prop
 rt:VK
 bk:St->Hp->Prop:=fun _ _=>False
 ct:St->Hp->Prop:=fun _ _=>False
abbrev TS:=Ends->St->Hp->Prop
def EP (X:Cx) (pins:List (Addr×Obj)) (σ:St) (Q:VK) (u:Value) (s':Shared):Prop:=∃ v H',Inv X pins σ H' s'/\cD v u/\Q v H'
def TP (X:Cx) (pins:List (Addr×Obj)) (σ:St) (Q:Bool->Hp->Prop) (b:Bool) (s':Shared):Prop:=∃ H',Inv X pins σ H' s'/\Q b H'
def AP (X:Cx) (pins:List (Addr×Obj)) (σ:St) (Q:List V->Hp->Prop) (us:List Value) (s':Shared):Prop:=∃ vs H',Inv X pins σ H' s'/\cO vs us/\Q vs H'
def SP (X:Cx) (pins:List (Addr×Obj)) (D:Ends) (f:Flow) (s':Shared):Prop:=
 match f with
 | .next=>∃ σ' H',Inv X pins σ' H' s'/\D.nx σ' H'
 | .brk=>∃ σ' H',Inv X pins σ' H' s'/\D.bk σ' H'
 | .cont=>∃ σ' H',Inv X pins σ' H' s'/\D.ct σ' H'
 | .ret u=>∃ v σ' H',Inv X pins σ' H' s'/\cD v u/\D.rt v H'
def PE (X:Cx) (e:Expr) (t:TE):Prop:=
 ∀ (pins:List (Addr×Obj)) (s:Shared) (σ:St) (H:Hp) (Q:VK),Inv X pins σ H s->t σ H Q->wpAny (model X.prog X.w) X.A (eval e X.env) (EP X pins σ Q) X.xe s
def PT (X:Cx) (e:Expr) (t:TT):Prop:=
 ∀ (pins:List (Addr×Obj)) (s:Shared) (σ:St) (H:Hp) (Q:Bool->Hp->Prop),Inv X pins σ H s->t σ H Q->wpAny (model X.prog X.w) X.A (isTrue e X.env (eval e X.env)) (TP X pins σ Q) X.xe s
def PW (X:Cx) (e:Expr) (t:TT):Prop:=
 ∀ (whole:Sem Value) (pins:List (Addr×Obj)) (s:Shared) (σ:St) (H:Hp) (Q:Bool->Hp->Prop),Inv X pins σ H s->t σ H Q->wpAny (model X.prog X.w) X.A (isTrue e X.env whole) (TP X pins σ Q) X.xe s
theorem PW.pt {X:Cx} {e:Expr} {t:TT} (h:PW X e t):PT X e t:=h _
def PA (X:Cx) (es:List Expr) (t:TA):Prop:=
 ∀ (pos:Pos) (pins:List (Addr×Obj)) (s:Shared) (σ:St) (H:Hp) (Q:List V->Hp->Prop),Inv X pins σ H s->t σ H Q->wpAny (model X.prog X.w) X.A (spliced (backTo pos (starEach es X.env))) (AP X pins σ Q) X.xe s
def PS (X:Cx) (st:Stmt) (t:TS):Prop:=
 ∀ (pins:List (Addr×Obj)) (s:Shared) (σ:St) (H:Hp) (D:Ends),Inv X pins σ H s->t D σ H->wpAny (model X.prog X.w) X.A (exec st X.env) (SP X pins D) X.xe s
def PSs (X:Cx) (st:List Stmt) (t:TS):Prop:=
 ∀ (pins:List (Addr×Obj)) (s:Shared) (σ:St) (H:Hp) (D:Ends),Inv X pins σ H s->t D σ H->wpAny (model X.prog X.w) X.A (execs st X.env) (SP X pins D) X.xe s
theorem thn {α:Type} {t:Sem α} {Q Q':α->Shared->Prop} {M:Model} {A:Around} {E:Value->Shared->Prop} {s:Shared} (h:wpAny M A t Q E s) (hQ:∀ a s,Q a s->Q' a s):wpAny M A t Q' E s:=wpAny_mono h hQ fun _ _ x=>x
end L2
namespace L2
open PySem PySem.Spec PyProof.Rows
section
variable {X:Cx}
theorem bin {a b:Expr} {ta tb:TE} (ha:PE X a ta) (hb:PE X b tb) {pins:List (Addr×Obj)} {s:Shared} {σ:St} {H:Hp} {R:V->V->Hp->Prop} (I:Inv X pins σ H s) (h:ta σ H fun x H1=>tb σ H1 fun y H2=>R x y H2)
  {α:Type} {Q:α->Shared->Prop} {f:Value->Value->Sem α}
  (hf:∀ v u s2 x y H2,Inv X pins σ H2 s2->cD x v->cD y u->R x y H2->wpAny (model X.prog X.w) X.A (f v u) Q X.xe s2):
  wpAny (model X.prog X.w) X.A (eval a X.env) (fun v s₁=>wpAny (model X.prog X.w) X.A (eval b X.env) (fun u s₂=>wpAny (model X.prog X.w) X.A (f v u) Q X.xe s₂) X.xe s₁) X.xe s:=by
 refine thn (ha pins s σ H _ I h) fun v s1 ⟨x,H1,I1,r1,q1⟩=>?_
 refine thn (hb pins s1 σ H1 _ I1 q1) fun u s2 ⟨y,H2,I2,r2,q2⟩=>?_
 exact hf v u s2 x y H2 I2 r1 r2 q2
abbrev uY (i:Nat):TE:=fun σ H Q=>∃ v,σ[i]?=some (some v)/\Q v H
abbrev tC (v:V):TE:=fun _ H Q=>Q v H
theorem nQ {i:Nat} {x:Str} {pos:Pos} (hN:X.N[i]?=some x) (hv:Vis X.env.scope x) (hd:(x==("__debug__" : Str))=false:=by decide) (hcd:(x==("__classdict__" : Str))=false:=by decide):PE X (.Name x pos) (uY i):=by
 intro pins s σ H Q I h
 obtain ⟨v,e,h⟩:=h
 obtain ⟨m,hn,hl⟩:=I.loc
 obtain ⟨u,r,l⟩:=hl i x v hN e hv
 have fin:EP X pins σ Q u s:=⟨v,H,I,r,h⟩
 rcases l with ⟨hk,hm⟩ | ⟨hk,c,hc,hcell⟩
 ·exact wpAny_Name (wpAny_loadName_local I.ok.kind hk hn hm fin) hd
 ·rcases hk with hk | hk
  ·exact wpAny_Name (wpAny_loadName_cell I.ok.kind hk hc hcell fin) hd
  ·exact wpAny_Name (wpAny_loadName_free I.ok.kind hk hc hcell fin hcd) hd
theorem zBo {i j pos}:PE X (.Constant (.int i) j pos) (tC (.int i)):=fun _ _ _ H _ I h=>wpAny_Constant_int ⟨.int i,H,I.tok _,⟨_,rfl⟩,h⟩
theorem zCV {b j pos}:PE X (.Constant (.bool b) j pos) (tC (.bl b)):=fun _ _ _ H _ I h=>Constant_bool ⟨.bl b,H,I,rfl,h⟩
theorem zDw {j pos}:PE X (.Constant .none j pos) (tC .non):=fun _ _ _ H _ I h=>Constant_none ⟨.non,H,I,rfl,h⟩
theorem bH {x j pos}:PE X (.Constant (.str x) j pos) (tC (.str x)):=fun _ _ _ H _ I h=>Calls.Constant_str ⟨.str x,H,I.tok _,⟨_,rfl⟩,h⟩
def Gl (X:Cx) (x:Str):Prop:=X.env.kindOf x=some .globalImplicit
theorem nV {E:Value->Shared->Prop} {pins:List (Addr×Obj)} {s:Shared} {σ:St} {H:Hp} {x:Str} {u:Value} {pos:Pos} {Q:Value->Shared->Prop} (I:Inv X pins σ H s) (hg:Gl X x) (hm:X.mg x=some u) (h:Q u s)
  (hd:(x==("__debug__" : Str))=false:=by decide):wpAny (model X.prog X.w) X.A (eval (.Name x pos) X.env) Q E s:=
 Calls.Name_function_global I.ok.kind hg (Calls.loadGlobal_global (by rw [I.ok.glob];exact I.mod.glob.keeps I.bk) hm h) hd
theorem nB {E:Value->Shared->Prop} {pins:List (Addr×Obj)} {s:Shared} {σ:St} {H:Hp} {x:Str} {u:Value} {pos:Pos} {Q:Value->Shared->Prop} (I:Inv X pins σ H s) (hg:Gl X x) (hm:X.mg x=none) (hv:bootBuiltins x=some u) (h:Q u s)
  (hn:x ≠ "__name__" := by decide) (hd:(x==("__debug__" : Str))=false:=by decide):wpAny (model X.prog X.w) X.A (eval (.Name x pos) X.env) Q E s:=by
 obtain ⟨mb,h1,h2⟩:=I.mod.blt
 exact Calls.Name_function_global I.ok.kind hg (Calls.loadGlobal_builtin (by rw [I.ok.glob];exact I.mod.glob.keeps I.bk) hm (by rw [I.ok.blt];exact h1.keeps I.bk) ((h2 x hn).trans hv) h) hd
theorem uV {x:Str} {v:V} {u:Value} {pos:Pos} (hg:Gl X x) (hm:X.mg x=some u) (r:cD v u) (hd:(x==("__debug__" : Str))=false:=by decide):PE X (.Name x pos) (tC v):=
 fun _ _ _ H _ I h=>nV I hg hm ⟨v,H,I,r,h⟩ hd
theorem zBa {x:Str} {v:V} {u:Value} {pos:Pos} (hg:Gl X x) (hm:X.mg x=none) (hv:bootBuiltins x=some u) (r:cD v u) (hn:x ≠ "__name__" := by decide) (hd:(x==("__debug__" : Str))=false:=by decide):PE X (.Name x pos) (tC v):=
 fun _ _ _ H _ I h=>nB I hg hm hv ⟨v,H,I,r,h⟩ hn hd
variable {a b:Expr} {ta tb:TE} {pos:Pos}
def PC (X:Cx) (op:CmpOp) (a b:Expr) (t:TE):Prop:=
 ∀ (pins:List (Addr×Obj)) (s:Shared) (σ:St) (H:Hp) (Q:VK),Inv X pins σ H s->t σ H Q->
  wpAny (model X.prog X.w) X.A (eval a X.env) (fun v s₁=>wpAny (model X.prog X.w) X.A (eval b X.env) (fun u s₂=>wpAny (model X.prog X.w) X.A (compareOp op v u) (EP X pins σ Q) X.xe s₂) X.xe s₁) X.xe s
theorem zCl (b:Expr) {op:CmpOp} (h:op≠.In) (h2:op≠.NotIn):behindInMarks op b=false:=by
 have e1:(op==CmpOp.In)=false:=by cases op<;>first | rfl | exact absurd rfl h
 have e2:(op==CmpOp.NotIn)=false:=by cases op<;>first | rfl | exact absurd rfl h2
 cases b<;>simp [behindInMarks,e1,e2]
abbrev tB (t:TE):TT:=fun σ H Q=>t σ H fun x H1=>∃ c,x=.bl c/\Q c H1
theorem zJc {op:CmpOp} {t:TE} (h:PC X op a b t) (h1:behindInMarks op b=false:=by first | exact zCl _ (by decide) (by decide) | rfl):PT X (.Compare a [op] [b] pos) (tB t):=by
 intro pins s σ H Q I hw
 refine wpAny_isTrue_Compare1 (thn (h pins s σ H _ I hw) fun v s1 h1=>thn h1 fun u s2 h2=>thn h2 fun c s3 ⟨x,H1,I1,r1,q1⟩=>?_) h1
 obtain ⟨d,rfl,q⟩:=q1
 cases r1
 exact wpAny_truthy_bool ⟨H1,I1,q⟩
theorem zHd {e:Expr} {t:TE} (h:PE X e t) (he:∀ whole,isTrue e X.env whole=(do let v <-whole;standAt e.pos;holding [v] (truthy v)):=by intro _;rfl):PT X e (tB t):=by
 intro pins s σ H Q I hw
 refine isTrue_plain (thn (h pins s σ H _ I hw) fun v s1 ⟨x,H1,I1,r1,q1⟩=>?_) (he _)
 obtain ⟨d,rfl,q⟩:=q1
 cases r1
 exact wpAny_truthy_bool ⟨H1,I1,q⟩
variable {tA tB':TT} {rest:List Expr}
abbrev zJA (t u:TT):TT:=fun σ H Q=>t σ H fun c H1=>if c=true then u σ H1 Q else Q false H1
abbrev tOr (t u:TT):TT:=fun σ H Q=>t σ H fun c H1=>if c=true then Q true H1 else u σ H1 Q
abbrev zJP (t:TT):TT:=fun σ H Q=>t σ H fun c H1=>Q (!c) H1
theorem zEN (ha:PT X a tA):PW X (.BoolOp .And [a] pos) tA:=by
 intro wh pins s σ H Q I h
 refine isTrue_and (thn (ha pins s σ H Q I h) fun c s1 e=>?_)
 cases c with
 | true=>exact isTrue_and_nil e
 | false=>exact e
theorem zFO (ha:PT X a tA):PW X (.BoolOp .Or [a] pos) tA:=by
 intro wh pins s σ H Q I h
 refine isTrue_or (thn (ha pins s σ H Q I h) fun c s1 e=>?_)
 cases c with
 | false=>exact isTrue_or_nil e
 | true=>exact e
theorem zFN (ha:PT X a tA) (hb:PW X (.BoolOp .And (b::rest) pos) tB'):PW X (.BoolOp .And (a::b::rest) pos) (zJA tA tB'):=by
 intro wh pins s σ H Q I h
 refine isTrue_and (thn (ha pins s σ H _ I h) fun c s1 ⟨H1,I1,q1⟩=>?_)
 cases c with
 | true=>exact hb wh pins s1 σ H1 Q I1 q1
 | false=>exact ⟨H1,I1,q1⟩
theorem zIH (ha:PT X a tA) (hb:PW X (.BoolOp .Or (b::rest) pos) tB'):PW X (.BoolOp .Or (a::b::rest) pos) (tOr tA tB'):=by
 intro wh pins s σ H Q I h
 refine isTrue_or (thn (ha pins s σ H _ I h) fun c s1 ⟨H1,I1,q1⟩=>?_)
 cases c with
 | true=>exact ⟨H1,I1,q1⟩
 | false=>exact hb wh pins s1 σ H1 Q I1 q1
theorem zGM (ha:PT X a tA):PT X (.UnaryOp .Not a pos) (zJP tA):=by
 intro pins s σ H Q I h
 exact isTrue_not (ha pins s σ H (fun c H1=>Q (!c) H1) I h)
abbrev zKf (ta tb:TE):TE:=fun σ H Q=>ta σ H fun x H1=>∃ c,x=.bl c/\if c=true then Q (.bl true) H1 else tb σ H1 Q
theorem zFM {op} {t:TE} (h:PE X a t):PE X (.BoolOp op [a] pos) t:=fun pins s σ H Q I hw=>BoolOp_one (h pins s σ H Q I hw)
theorem zIK (ha:PE X a ta) (hb:PE X (.BoolOp .Or (b::rest) pos) tb):PE X (.BoolOp .Or (a::b::rest) pos) (zKf ta tb):=by
 intro pins s σ H Q I h
 refine BoolOp_or (thn (ha pins s σ H _ I h) fun v s1 ⟨x,H1,I1,r1,q1⟩=>?_)
 obtain ⟨c,rfl,q1⟩:=q1
 cases r1
 refine wpAny_truthy_bool ?_
 cases c with
 | false=>exact hb pins s1 σ H1 Q I1 q1
 | true=>exact ⟨.bl true,H1,I1,rfl,q1⟩
abbrev tIf (t:TT) (ta tb:TE):TE:=fun σ H Q=>t σ H fun c H1=>if c=true then ta σ H1 Q else tb σ H1 Q
theorem zCG {c:Expr} (hc:PT X c tA) (ha:PE X a ta) (hb:PE X b tb):PE X (.IfExp c a b pos) (tIf tA ta tb):=by
 intro pins s σ H Q I h
 refine wpAny_IfExp (thn (hc pins s σ H _ I h) fun d s1 ⟨H1,I1,q1⟩=>?_)
 cases d with
 | true=>exact ha pins s1 σ H1 Q I1 q1
 | false=>exact hb pins s1 σ H1 Q I1 q1
end
end L2
namespace L2
open PySem PySem.Spec PyProof.Rows
def SqL (K:PySem.W.Frag) (H:Hp) (a:Addr) (xs:List V):Prop:=
 Rd H a (.lst xs)∨
  ∃ (o:Obj) (its:Array Value) (n:Nat),K.lookup a=some o/\o.cls=.type "list" /\ o.dict=none/\o.data=.seq its n/\its.size<=sizeLine/\cO xs its.toList
def SqT (K:PySem.W.Frag) (H:Hp) (a:Addr) (xs:List V):Prop:=
 Rd H a (.tup xs)∨
  ∃ (o:Obj) (its:Array Value) (n:Nat),K.lookup a=some o/\o.cls=.type "tuple" /\ o.data=.seq its n/\its.size<=sizeLine/\cO xs its.toList
def zKb:Value->Option V
 | .none=>some .non
 | .bool b=>some (.bl b)
 | .int i _=>some (.int i)
 | .str x _=>some (.str x)
 | .bytes b _=>some (.byt b)
 | .float b _=>some (.flt b)
 | .ref a=>some (.ref a)
 | .type n=>some (.ty n)
 | _=>none
theorem cD.abs {x:V} {u:Value} (r:cD x u):zKb u=some x:=by
 cases x with
 | non=>cases r;rfl
 | bl _=>cases r;rfl
 | int _=>obtain ⟨t,rfl⟩:=r;rfl
 | str _=>obtain ⟨t,rfl⟩:=r;rfl
 | byt _=>obtain ⟨t,rfl⟩:=r;rfl
 | flt _=>obtain ⟨t,rfl⟩:=r;rfl
 | ref _=>cases r;rfl
 | ty _=>cases r;rfl
theorem cD.inj {x y:V} {u:Value} (r:cD x u) (q:cD y u):x=y:=Option.some.inj (r.abs.symm.trans q.abs)
theorem cO.inj:∀ {xs ys:List V} {us:List Value},cO xs us->cO ys us->xs=ys
 | _,_,_,.nil,.nil=>rfl
 | _,_,_,.cons r t,.cons r' t'=>by rw [r.inj r',cO.inj t t']
section
variable {X:Cx} {pins:List (Addr×Obj)} {σ:St} {H:Hp} {s:Shared} {a:Addr} {xs ys:List V}
theorem SqL.of {K:PySem.W.Frag} (h:H a=some (.lst xs)):SqL K H a xs:=.inl (.inl h)
theorem SqT.of {K:PySem.W.Frag} (h:H a=some (.tup xs)):SqT K H a xs:=.inl (.inl h)
theorem Inv.list (I:Inv X pins σ H s) (h:SqL X.K H a xs):∃ its:List Value,cO xs its/\PlainL s.heap a its.toArray/\xs.length<=sizeLine:=by
 rcases h with h | ⟨o,its,n,hk,hc,hd,hs,hz,r⟩
 ·obtain ⟨z,its,n,r,e⟩:=h.ok I.hok
  exact ⟨its,r,⟨_,n,e,rfl,rfl,rfl⟩,z⟩
 ·refine ⟨its.toList,r,⟨o,n,I.kIn a o hk,hc,hd,by simpa using hs⟩,?_⟩
  have e:=r.length
  simp only [Array.length_toList] at e
  omega
theorem Inv.tuple (I:Inv X pins σ H s) (h:SqT X.K H a xs):∃ its:List Value,cO xs its/\IsTup s.heap a its.toArray/\xs.length<=sizeLine:=by
 rcases h with h | ⟨o,its,n,hk,hc,hs,hz,r⟩
 ·obtain ⟨z,its,r,p⟩:=h.ok I.hok
  exact ⟨its,r,p,z⟩
 ·refine ⟨its.toList,r,⟨o,I.kIn a o hk,hc,n,by simpa using hs⟩,?_⟩
  have e:=r.length
  simp only [Array.length_toList] at e
  omega
theorem Inv.list_inj (I:Inv X pins σ H s) (h:SqL X.K H a xs) (h':SqL X.K H a ys):xs=ys:=by
 obtain ⟨its,r,⟨o,n,e,_,_,d⟩,_⟩:=I.list h
 obtain ⟨its',r',⟨o',n',e',_,_,d'⟩,_⟩:=I.list h'
 rw [e] at e';cases e'
 rw [d] at d'
 injection d' with d1 _
 have:its=its':=by simpa using congrArg Array.toList d1
 subst this
 exact r.inj r'
theorem Inv.tuple_inj (I:Inv X pins σ H s) (h:SqT X.K H a xs) (h':SqT X.K H a ys):xs=ys:=by
 obtain ⟨its,r,⟨o,e,_,n,d⟩,_⟩:=I.tuple h
 obtain ⟨its',r',⟨o',e',_,n',d'⟩,_⟩:=I.tuple h'
 rw [e] at e';cases e'
 rw [d] at d'
 injection d' with d1 _
 have:its=its':=by simpa using congrArg Array.toList d1
 subst this
 exact r.inj r'
end
abbrev Cx.wish (X:Cx) (E:Value->Shared->Prop):Cx:={ X with xe:=E }
abbrev Cx.nox (X:Cx):Cx:=X.wish fun _ _=>False
theorem Cx.Ok.wish {X:Cx} (ok:X.Ok) (E:Value->Shared->Prop):(X.wish E).Ok:=
 ⟨ok.mod,ok.kind,ok.glob,ok.blt,ok.above,ok.inj,ok.has,ok.cab,ok.hd,ok.frames,ok.stk,ok.exf,ok.bs,ok.bsz,ok.noex,ok.exfs,ok.funs,ok.frf⟩
theorem Cx.Ok.unwish {X:Cx} {E:Value->Shared->Prop} (ok:(X.wish E).Ok):X.Ok:=
 ⟨ok.mod,ok.kind,ok.glob,ok.blt,ok.above,ok.inj,ok.has,ok.cab,ok.hd,ok.frames,ok.stk,ok.exf,ok.bs,ok.bsz,ok.noex,ok.exfs,ok.funs,ok.frf⟩
section
variable {X:Cx} {pins:List (Addr×Obj)} {σ:St} {H:Hp} {s:Shared} {E:Value->Shared->Prop}
theorem Inv.wish (I:Inv X pins σ H s) (E:Value->Shared->Prop):Inv (X.wish E) pins σ H s:=⟨I.ok.wish E,I.os,I.bare,I.base,I.loc,I.cell,I.free,I.freeC,I.pin,I.hok,I.len⟩
theorem Inv.unwish (I:Inv (X.wish E) pins σ H s):Inv X pins σ H s:=⟨I.ok.unwish,I.os,I.bare,I.base,I.loc,I.cell,I.free,I.freeC,I.pin,I.hok,I.len⟩
end
section
variable {X:Cx} {st:Stmt} {rest:List Stmt} {t u:TS} {e:Expr} {te:TE} {pos:Pos}
abbrev zIm:TS:=fun D σ H=>D.nx σ H
abbrev zIh (t u:TS):TS:=fun D σ H=>t { D with nx:=u D } σ H
theorem zEr:PSs X [] zIm:=fun _ _ σ H _ I h=>wpAny_execs_nil ⟨σ,H,I,h⟩
theorem mV (h1:PS X st t) (h2:PSs X rest u):PSs X (st::rest) (zIh t u):=by
 intro pins s σ H D I h
 refine wpAny_execs_cons (thn (h1 pins s σ H { D with nx:=u D } I h) fun f s1 q=>?_)
 cases f with
 | next=>
  obtain ⟨σ',H',I',q⟩:=q
  exact h2 pins s1 σ' H' D I' q
 | ret v=>exact q
 | brk=>exact q
 | cont=>exact q
theorem vC (h1:PS X st t):PSs X [st] t:=by
 intro pins s σ H D I h
 refine wpAny_execs_cons (thn (h1 pins s σ H D I h) fun f s1 q=>?_)
 cases f with
 | next=>exact wpAny_execs_nil q
 | ret v=>exact q
 | brk=>exact q
 | cont=>exact q
theorem Inv.quiet {pins:List (Addr×Obj)} {σ:St} {H:Hp} {s:Shared} (I:Inv X pins σ H s):interactive X.env=false:=by simp [interactive,I.ok.kind]
abbrev zIn (te:TE):TS:=fun D σ H=>te σ H fun _ H1=>D.nx σ H1
theorem yV (he:PE X e te) (hs:swapsWith e none pos.line X.env=pure false:=by rfl):PS X (.Expr e pos) (zIn te):=by
 intro pins s σ H D I h
 exact wpAny_Expr_any (thn (he pins s σ H _ I h) fun v s1 ⟨x,H1,I1,r1,q1⟩=>⟨σ,H1,I1,q1⟩) I.quiet hs
abbrev zJi (te:TE):TS:=fun D σ H=>te σ H D.rt
theorem sQ (he:PE X e te):PS X (.Return (some e) pos) (zJi te):=by
 intro pins s σ H D I h
 exact wpAny_Return_some (thn (he pins s σ H _ I h) fun v s1 ⟨x,H1,I1,r1,q1⟩=>⟨x,σ,H1,I1,r1,q1⟩)
abbrev zJE (c:TT) (t u:TS):TS:=fun D σ H=>c σ H fun b H1=>if b=true then t D σ H1 else u D σ H1
theorem zIp {c:Expr} {a b:List Stmt} {tc:TT} (hc:PT X c tc) (ha:PSs X a t) (hb:PSs X b u):PS X (.If c a b pos) (zJE tc t u):=by
 intro pins s σ H D I h
 refine wpAny_If (thn (hc pins s σ H _ I h) fun d s1 ⟨H1,I1,q1⟩=>?_)
 cases d with
 | true=>exact ha pins s1 σ H1 D I1 q1
 | false=>exact hb pins s1 σ H1 D I1 q1
end
abbrev TG:=V->St->Hp->(St->Hp->Prop)->Prop
abbrev TGs:=List V->St->Hp->(St->Hp->Prop)->Prop
def PG (X:Cx) (target:Expr) (t:TG):Prop:=
 ∀ (pins:List (Addr×Obj)) (s:Shared) (σ:St) (H:Hp) (v:V) (u:Value) (Q:St->Hp->Prop),Inv X pins σ H s->cD v u->t v σ H Q->
  wpAny (model X.prog X.w) X.A (assign target X.env u) (fun _ s'=>∃ σ' H',Inv X pins σ' H' s'/\Q σ' H') X.xe s
def PGs (X:Cx) (ts:List Expr) (t:TGs):Prop:=
 ∀ (pins:List (Addr×Obj)) (s:Shared) (σ:St) (H:Hp) (vs:List V) (us:List Value) (Q:St->Hp->Prop),Inv X pins σ H s->cO vs us->t vs σ H Q->
  wpAny (model X.prog X.w) X.A (assignInOrder ((assignEach ts X.env).map (·.2)) us) (fun _ s'=>∃ σ' H',Inv X pins σ' H' s'/\Q σ' H') X.xe s
abbrev zIF:=V->V->V->Hp->(Hp->Prop)->Prop
def zJj (X:Cx) (t:zIF):Prop:=
 ∀ (pins:List (Addr×Obj)) (s:Shared) (σ:St) (H:Hp) (o i v:V) (ov iv u:Value) (Q:Hp->Prop),Inv X pins σ H s->cD o ov->cD i iv->cD v u->t o i v H Q->
  wpAny (model X.prog X.w) X.A (setItem ov iv u) (fun _ s'=>∃ H',Inv X pins σ H' s'/\Q H') X.xe s
abbrev TIp:=V->V->Hp->VK->Prop
def PIp (X:Cx) (op:Operator) (t:TIp):Prop:=
 ∀ (pins:List (Addr×Obj)) (s:Shared) (σ:St) (H:Hp) (x y:V) (v u:Value) (Q:VK),Inv X pins σ H s->cD x v->cD y u->t x y H Q->
  wpAny (model X.prog X.w) X.A (inplaceOp op v u) (EP X pins σ Q) X.xe s
section
variable {X:Cx} {pos:Pos}
abbrev gName (i:Nat):TG:=fun v σ H Q=>Q (σ.set i (some v)) H
theorem uJ {i:Nat} {x:Str} (hN:X.N.Nodup) (hi:X.N[i]?=some x) (hx:Loc X.env.scope x) (hf:X.fn x=true∨X.env.scope.names.lookup x=some .local:=by first | exact .inl rfl | exact .inr rfl | assumption):PG X (.Name x pos) (gName i):=by
 intro pins s σ H v u Q I r h
 exact wpAny_assign_Name (fY I hN hi hx r (fun s' I'=>⟨_,H,I',h⟩) hf)
def zHQ:TGs:=fun vs σ H Q=>vs=[]/\Q σ H
def zAj (t:TG) (u:TGs):TGs:=fun vs σ H Q=>∃ v r,vs=v::r/\t v σ H fun σ' H'=>u r σ' H' Q
theorem zEZ:PGs X [] zHQ:=by
 intro pins s σ H vs us Q I r h
 obtain ⟨e,h⟩:=h
 subst e
 cases r
 exact assignInOrder_nil ⟨σ,H,I,h⟩
theorem vZ {e:Expr} {es:List Expr} {t:TG} {u:TGs} (h1:PG X e t) (h2:PGs X es u)
  (hs:(assignEach (e::es) X.env).map (·.2)=assign e X.env::(assignEach es X.env).map (·.2):=by rfl):PGs X (e::es) (zAj t u):=by
 intro pins s σ H vs us Q I r h
 obtain ⟨v,vr,e1,h⟩:=h
 subst e1
 cases r with
 | cons r rr=>
  rw [hs]
  refine assignInOrder_cons (thn (h1 pins s σ H _ _ _ I r h) fun _ s1 ⟨σ1,H1,I1,q1⟩=>?_)
  exact h2 pins s1 σ1 H1 _ _ Q I1 rr q1
def zFT (K:PySem.W.Frag) (n:Nat) (t:TGs):TG:=fun v σ H Q=>∃ a xs,v=.ref a/\SqT K H a xs/\xs.length=n/\t xs σ H Q
theorem zHy {es:List Expr} {k:Nat} {t:TGs} {n:Nat} (hc:X.calm=true) (h:PGs X es t)
  (hn:(assignEach es X.env).length=n:=by rfl) (hst:(assignEach es X.env).findIdx? (·.1)=none:=by rfl):PG X (.Tuple es k pos) (zFT X.K n t):=by
 intro pins s σ H v u Q I r hw
 obtain ⟨a,xs,e1,hq,hl,hw⟩:=hw
 subst e1
 cases r
 obtain ⟨its,rv,ht,hz⟩:=I.tuple hq
 refine assign_Tuple_tuple (I.ok.hd hc) ht (by simp [hn,<-hl,rv.length]) hst fun h' hx=>?_
 have I1:Inv X pins σ H { s with heap:=h' }:=I.kept (t':=s.toks) fun b o e=>hx b o (Nat.ne_of_lt (Heap.lt_size e)) e
 exact h pins _ σ H xs _ Q I1 (by simpa using rv) hw
def zJC (to ti:TE) (t:zIF):TG:=fun v σ H Q=>to σ H fun o H1=>ti σ H1 fun i H2=>t o i v H2 fun H3=>Q σ H3
theorem zGd {o i:Expr} {to ti:TE} {t:zIF} (ho:PE X o to) (hi:PE X i ti) (hs:zJj X t)
  (ha:∀ v,assign (.Subscript o i pos) X.env v=(do
   let ov <-holding [v] (eval o X.env)
   let iv <-holding [v,ov] (eval i X.env)
   standAt pos
   holding [v,ov,iv] (setItem ov iv v)
   release [v,ov,iv] []):=by intro _;rfl):PG X (.Subscript o i pos) (zJC to ti t):=by
 intro pins s σ H v u Q I r h
 rw [ha]
 refine wpAny_bind (wpAny_holding (thn (ho pins s σ H _ I h) fun ov s1 ⟨x,H1,I1,r1,q1⟩=>?_))
 refine wpAny_bind (wpAny_holding (thn (hi pins s1 σ H1 _ I1 q1) fun iv s2 ⟨y,H2,I2,r2,q2⟩=>?_))
 refine wpAny_bind (wpAny_standAt (wpAny_bind (wpAny_holding (thn (hs pins s2 σ H2 x y v ov iv u _ I2 r1 r2 r q2) fun _ s3 ⟨H3,I3,q3⟩=>?_))))
 exact wpAny_release ⟨σ,H3,I3,q3⟩
abbrev zJn (te:TE) (g:TG):TS:=fun D σ H=>te σ H fun x H1=>g x σ H1 D.nx
theorem zGf {tg e:Expr} {te:TE} {g:TG} (he:PE X e te) (hg:PG X tg g) (hs:swapsWithSole [tg] e pos.line X.env=pure false:=by rfl) (hw:swappedStores [tg] e X.env=pure none:=by rfl)
  (h1:(assignEach [tg] X.env).map (·.2)=[assign tg X.env]:=by rfl):PS X (.Assign [tg] e pos) (zJn te g):=by
 intro pins s σ H D I h
 refine wpAny_Assign_stores (thn (he pins s σ H _ I h) fun v s1 ⟨x,H1,I1,r1,q1⟩=>?_) hs hw
 rw [h1]
 exact thn (hg pins s1 σ H1 x v _ I1 r1 q1) fun _ s2 q=>q
theorem zDe {i:Nat} {x:Str} {e:Expr} {te:TE} {pos':Pos} (hN:X.N.Nodup) (hi:X.N[i]?=some x) (hx:Loc X.env.scope x) (he:PE X e te) (hs:swapsWith e (some (.Name x pos')) pos.line X.env=pure false:=by rfl) (hf:X.fn x=true∨X.env.scope.names.lookup x=some .local:=by first | exact .inl rfl | exact .inr rfl | assumption):
  PS X (.Assign [.Name x pos'] e pos) (zJn te (gName i)):=by
 intro pins s σ H D I h
 refine wpAny_Assign_Name (thn (he pins s σ H _ I h) fun v s1 ⟨y,H1,I1,r1,q1⟩=>?_) hs
 exact fY I1 hN hi hx r1 (fun s2 I2=>⟨_,H1,I2,q1⟩) hf
abbrev zJy (i:Nat) (te:TE) (ti:TIp):TS:=fun D σ H=>∃ x,σ[i]?=some (some x)/\te σ H fun y H1=>ti x y H1 fun z H2=>D.nx (σ.set i (some z)) H2
theorem zHM {i:Nat} {x:Str} {e:Expr} {te:TE} {op:Operator} {ti:TIp} {pos':Pos} (hN:X.N.Nodup) (hi:X.N[i]?=some x) (hx:Loc X.env.scope x) (he:PE X e te) (ho:PIp X op ti) (hf:X.fn x=true∨X.env.scope.names.lookup x=some .local:=by first | exact .inl rfl | exact .inr rfl | assumption):
  PS X (.AugAssign (.Name x pos') op e pos) (zJy i te ti):=by
 intro pins s σ H D I h
 obtain ⟨v,e1,h⟩:=h
 obtain ⟨m,hn,hl⟩:=I.loc
 have vis:Vis X.env.scope x:=by rcases hx with k | k;exact .inl k;exact .inr (.inl k)
 obtain ⟨u,r,l⟩:=hl i x v hi e1 vis
 refine wpAny_AugAssign_Name ?_
 have go:wpAny (model X.prog X.w) X.A (eval e X.env) (fun w s₂=>wpAny (model X.prog X.w) X.A (inplaceOp op u w) (fun r s₃=>wpAny (model X.prog X.w) X.A (storeName X.env x r) (fun _=>SP X pins D .next) X.xe s₃) X.xe s₂) X.xe s:=by
  refine thn (he pins s σ H _ I h) fun w s1 ⟨y,H1,I1,r1,q1⟩=>?_
  refine thn (ho pins s1 σ H1 v y u w _ I1 r r1 q1) fun z s2 ⟨zv,H2,I2,r2,q2⟩=>?_
  exact fY I2 hN hi hx r2 (fun s3 I3=>⟨_,H2,I3,q2⟩) hf
 rcases l with ⟨hk,hm⟩ | ⟨hk,c,hc,hcell⟩
 ·exact wpAny_loadName_local I.ok.kind hk hn hm go
 ·rcases hk with hk | hk
  ·exact wpAny_loadName_cell I.ok.kind hk hc hcell go
  ·rcases hx with k | k
   ·have:X.env.scope.names.lookup x=some .free:=hk
    rw [k] at this;cases this
   ·have:X.env.scope.names.lookup x=some .free:=hk
    rw [k] at this;cases this
def ipI (f:Int->Int->Int):TIp:=fun x y H Q=>∃ i j,x=.int i/\y=.int j/\Q (.int (f i j)) H
theorem zHm:PIp X .Sub (ipI fun i j=>i - j):=by
 intro pins s σ H x y v u Q I r1 r2 h
 obtain ⟨i,j,e1,e2,q⟩:=h
 subst e1;subst e2
 obtain ⟨t,rfl⟩:=r1
 obtain ⟨t',rfl⟩:=r2
 exact isub_int ⟨.int _,H,I.tok _,⟨_,rfl⟩,q⟩
end
section
variable {X:Cx} {pos:Pos}
def zHO (c:TT) (tb:TS):TS:=fun D σ H=>∃ W:Nat->St->Hp->Prop,(∃ m,W m σ H)/\∀ m σ H,W m σ H->
 c σ H fun b H1=>if b=true then ∃ N:St->Hp->Prop,(∀ σ' H',N σ' H'->∃ m',m' < m/\W m' σ' H')/\tb { D with nx:=N,ct:=N,bk:=D.nx } σ H1 else D.nx σ H1
theorem zCF {c:Expr} {body:List Stmt} {tc:TT} {tb:TS} (hp:PassesOwn (model X.prog X.w) X.A X.env X.xe) (hc:PT X c tc) (hb:PSs X body tb):PS X (.While c body [] pos) (zHO tc tb):=by
 intro pins s σ H D I h
 obtain ⟨W,⟨m0,w0⟩,turn⟩:=h
 refine wpAny_While (codeAny_whileLoop (fun n s'=>∃ σ' H',Inv X pins σ' H' s'/\W n σ' H') ?_ m0 ⟨σ,H,I,w0⟩)
 rintro n s1 ⟨σ1,H1,I1,w1⟩
 refine wpAny_passesOwn hp (thn (hc pins s1 σ1 H1 _ I1 (turn n σ1 H1 w1)) fun b s2 ⟨H2,I2,q2⟩=>?_)
 cases b with
 | true=>
  obtain ⟨N,hN,q2⟩:=q2
  rw [if_pos rfl]
  refine wpAny_passesOwn hp (thn (hb pins s2 σ1 H2 _ I2 q2) fun f s3 q3=>?_)
  cases f with
  | next=>
   obtain ⟨σ3,H3,I3,n3⟩:=q3
   obtain ⟨m',hm,w3⟩:=hN σ3 H3 n3
   exact ⟨m',hm,σ3,H3,I3,w3⟩
  | cont=>
   obtain ⟨σ3,H3,I3,n3⟩:=q3
   obtain ⟨m',hm,w3⟩:=hN σ3 H3 n3
   exact ⟨m',hm,σ3,H3,I3,w3⟩
  | brk=>exact q3
  | ret v=>exact q3
 | false=>
  rw [if_neg Bool.false_ne_true]
  exact wpAny_execs_nil ⟨σ1,H2,I2,q2⟩
end
structure It where
 go:Nat->Hp->Prop
 yld:Nat->Hp->V->Hp->Prop
 stop:Nat->Hp->Prop
def jR (X:Cx) (pins:List (Addr×Obj)) (H:Hp) (b:Addr):Prop:=
 H b=none/\b≠X.env.locals/\b∉X.fs/\(b∈X.ex∨X.s₀.heap.objs.size<=b)/\(∀ x c,X.env.cells.lookup x=some c->c≠b)/\∀ p∈X.pn++pins,p.1≠b
theorem Inv.fpOk {X:Cx} {pins:List (Addr×Obj)} {σ:St} {H H':Hp} {s:Shared} {b:Addr} (I:Inv X pins σ H s) (hb:s.heap.objs.size<=b) (hn:H' b=none):jR X pins H' b:=by
 refine ⟨hn,Nat.ne_of_gt (Nat.lt_of_lt_of_le I.lt hb),I.nofs hb,.inr (Nat.le_trans I.sz hb),fun x c e z=>?_,fun p hp z=>?_⟩
 ·obtain ⟨v,q⟩:=I.cell x c e
  exact absurd (Nat.lt_of_lt_of_le q.lt (by rw [z];exact hb)) (Nat.lt_irrefl _)
 ·exact absurd (Nat.lt_of_lt_of_le (Heap.lt_size (I.pin p hp).1) (by rw [z];exact hb)) (Nat.lt_irrefl _)
structure Turn (P:Program) (w:World) (K:PySem.W.Frag) (tg:Expr) (J:It) (fp:List Addr) (it:Addr) (tn:Nat->Heap->Prop):Prop where
 mem:it∈fp
 obj:∀ i h,tn i h->∀ b∈fp,∃ o,h.get? b=some o/\∀ v,o.data≠.cell v
 keep:∀ i h h',tn i h->(∀ b∈fp,∀ o,h.get? b=some o->h'.get? b=some o)->tn i h'
 item:∀ (X:Cx),X.prog=P->X.w=w->X.K=K->X.calm=true->∀ (i:Nat) (pins:List (Addr×Obj)) (s:Shared) (σ:St) (H:Hp) (E:Value->Shared->Prop),Inv X pins σ H s->(∀ b∈fp,jR X pins H b)->tn i s.heap->J.go i H->
  wpAny (model P w) X.A (pyNext (.ref it)) (fun r s1=>∃ u,r=some u/\
   wpAny (model P w) X.A (letOwnedTupleGo tg (.ref it) u) (fun _ s2=>∃ x H',Inv X pins σ H' s2/\cD x u/\J.yld i H x H'/\tn (i+1) s2.heap/\∀ b∈fp,H' b=none) E s1) E s
 done:∀ (X:Cx),X.prog=P->X.w=w->X.K=K->X.calm=true->∀ (i:Nat) (pins:List (Addr×Obj)) (s:Shared) (σ:St) (H:Hp) (E:Value->Shared->Prop),Inv X pins σ H s->(∀ b∈fp,jR X pins H b)->tn i s.heap->J.stop i H->
  wpAny (model P w) X.A (pyNext (.ref it)) (fun r s1=>r=none/\Inv X pins σ H s1) E s
 self:∀ (A:Around) (i:Nat) (s:Shared) (Q:Value->Shared->Prop) (E:Value->Shared->Prop),tn i s.heap->Q (.ref it) s->wpAny (model P w) A (pyIter (.ref it)) Q E s
abbrev TI:=St->Hp->(It->Hp->Prop)->Prop
def PIE (X:Cx) (pins:List (Addr×Obj)) (σ:St) (tg:Expr) (R:It->Hp->Prop) (itv:Value) (s2:Shared):Prop:=
 ∃ (it:Addr) (fp:List Addr) (tn:Nat->Heap->Prop) (J:It) (H':Hp),itv=.ref it/\Inv X pins σ H' s2/\Turn X.prog X.w X.K tg J fp it tn/\tn 0 s2.heap/\(∀ b∈fp,jR X pins H' b)/\R J H'
def PI (X:Cx) (tg iter:Expr) (wi:TI):Prop:=
 ∀ (pins:List (Addr×Obj)) (s:Shared) (σ:St) (H:Hp) (R:It->Hp->Prop),Inv X pins σ H s->wi σ H R->
  wpAny (model X.prog X.w) X.A (eval iter X.env) (fun v s1=>wpAny (model X.prog X.w) X.A (pyIter v) (PIE X pins σ tg R) X.xe s1) X.xe s
theorem zCi {M:Model} {A:Around} {E:Value->Shared->Prop} {s:Shared} {tg:Expr} {it:Addr} {u:Value} {o:Obj} {n:String} {vs:Array Value} {Q:Unit->Shared->Prop} (ho:s.heap.get? it=some o) (hc:o.cls=.type n) (hd:o.data=.fields vs)
    (hn:["enumerate", "zip", "dict_itemiterator", "dict_reverseitemiterator", "odict_iterator", "itertools.zip_longest", "itertools.pairwise"].contains n=false) (hQ:Q () s):wpAny M A (letOwnedTupleGo tg (.ref it) u) Q E s:=by
  unfold letOwnedTupleGo
  cases tg<;>first
    | exact wpAny_pure hQ
    | (cases u<;>first
        | exact wpAny_pure hQ
        | (refine wpAny_bind (wpAny_load ho ?_)
           rw [hc,hd]
           show wpAny M A (if (["enumerate", "zip", "dict_itemiterator", "dict_reverseitemiterator", "odict_iterator", "itertools.zip_longest", "itertools.pairwise"].contains n && vs[0]?==some (rawInt _))=true then _ else _) Q E s
           rw [if_neg (by intro h;rw [hn,Bool.false_and] at h;cases h)]
           exact wpAny_pure hQ))
def Itl (K:PySem.W.Frag) (a:Addr):It:=
 ⟨fun i H=>∃ xs x,SqL K H a xs/\xs[i]?=some x,fun i H x H'=>H'=H/\∀ xs,SqL K H a xs->xs[i]?=some x,fun i H=>∃ xs,SqL K H a xs/\xs.length<=i⟩
def Itt (K:PySem.W.Frag) (a:Addr):It:=
 ⟨fun i H=>∃ xs x,SqT K H a xs/\xs[i]?=some x,fun i H x H'=>H'=H/\∀ xs,SqT K H a xs->xs[i]?=some x,fun i H=>∃ xs,SqT K H a xs/\xs.length<=i⟩
def Itr (lo:Int) (n:Nat):It:=⟨fun i _=>i < n,fun i H x H'=>H'=H/\x=.int (lo+i),fun i _=>n<=i⟩
theorem nZ {P:Program} {w:World} {K:PySem.W.Frag} {tg:Expr} (a it:Addr):Turn P w K tg (Itl K a) [it] it (fun i h=>h.IsListIter it a i) where
 mem:=by simp
 obj:=fun i h st b hb=>by
  have e:b=it:=by simpa using hb
  subst e
  obtain ⟨o,e,c,d⟩:=st
  exact ⟨o,e,fun v z=>by rw [d] at z;cases z⟩
 keep:=fun i h h' st k=>st.at fun o e=>k it (by simp) o e
 item:=by
  intro X hP hw hK hc i pins s σ H E I hf st hg
  subst hP hw hK
  obtain ⟨xs,x,hq,hx⟩:=hg
  obtain ⟨its,rv,p,hz⟩:=I.list hq
  obtain ⟨u,hu,ru⟩:=rv.get hx
  obtain ⟨f0,f1,f2,f3,f4,f5⟩:=hf it (by simp)
  refine wpAny_pyNext_list_item st p.isList (x:=u) (by simpa using hu) fun h' st' sb=>?_
  have I1:Inv X pins σ H { s with heap:=h' }:=I.turned (t':=s.toks) (fun b o hb e=>(sb.2 b hb).trans e) f0 f1 f3 f4 f5
  obtain ⟨o,e,c,d⟩:=id st'
  exact ⟨u,rfl,zCi (s:={ s with heap:=h' }) e c d (by decide) ⟨x,H,I1,ru,⟨rfl,fun ys hy=>by rw [I.list_inj hy hq];exact hx⟩,st',fun b hb=>(hf b hb).1⟩⟩
 done:=by
  intro X hP hw hK hc i pins s σ H E I hf st hg
  subst hP hw hK
  obtain ⟨xs,hq,hx⟩:=hg
  obtain ⟨its,rv,p,hz⟩:=I.list hq
  obtain ⟨f0,f1,f2,f3,f4,f5⟩:=hf it (by simp)
  have hl:=rv.length
  exact wpAny_pyNext_list_end (I.ok.hd hc) st p.isList (by simp;omega) fun h' eb=>⟨rfl,I.turned (t':=s.toks) (fun b o hb e=>eb b o hb e) f0 f1 f3 f4 f5⟩
 self:=fun _ _ _ _ _ st h=>wpAny_pyIter_listiter st h
theorem xF {P:Program} {w:World} {K:PySem.W.Frag} {tg:Expr} (a it:Addr):Turn P w K tg (Itt K a) [it] it (fun i h=>h.IsTupleIter it a i) where
 mem:=by simp
 obj:=fun i h st b hb=>by
  have e:b=it:=by simpa using hb
  subst e
  obtain ⟨o,e,c,d⟩:=st
  exact ⟨o,e,fun v z=>by rw [d] at z;cases z⟩
 keep:=fun i h h' st k=>st.at fun o e=>k it (by simp) o e
 item:=by
  intro X hP hw hK hc i pins s σ H E I hf st hg
  subst hP hw hK
  obtain ⟨xs,x,hq,hx⟩:=hg
  obtain ⟨its,rv,p,hz⟩:=I.tuple hq
  obtain ⟨u,hu,ru⟩:=rv.get hx
  obtain ⟨f0,f1,f2,f3,f4,f5⟩:=hf it (by simp)
  refine wpAny_pyNext_tuple_item st (show s.heap.IsTuple a its.toArray from p) (x:=u) (by simpa using hu) fun h' st' sb=>?_
  have I1:Inv X pins σ H { s with heap:=h' }:=I.turned (t':=s.toks) (fun b o hb e=>(sb.2 b hb).trans e) f0 f1 f3 f4 f5
  obtain ⟨o,e,c,d⟩:=id st'
  exact ⟨u,rfl,zCi (s:={ s with heap:=h' }) e c d (by decide) ⟨x,H,I1,ru,⟨rfl,fun ys hy=>by rw [I.tuple_inj hy hq];exact hx⟩,st',fun b hb=>(hf b hb).1⟩⟩
 done:=by
  intro X hP hw hK hc i pins s σ H E I hf st hg
  subst hP hw hK
  obtain ⟨xs,hq,hx⟩:=hg
  obtain ⟨its,rv,p,hz⟩:=I.tuple hq
  obtain ⟨f0,f1,f2,f3,f4,f5⟩:=hf it (by simp)
  have hl:=rv.length
  exact wpAny_pyNext_tuple_end (I.ok.hd hc) st (show s.heap.IsTuple a its.toArray from p) (by simp;omega) fun h' eb=>⟨rfl,I.turned (t':=s.toks) (fun b o hb e=>eb b o hb e) f0 f1 f3 f4 f5⟩
 self:=fun _ _ _ _ _ st h=>wpAny_pyIter_tupleiter st h
theorem yF {P:Program} {w:World} {K:PySem.W.Frag} {tg:Expr} (it:Addr) (lo:Int) (n:Nat):Turn P w K tg (Itr lo n) [it] it (fun i h=>IsRangeIter h it (lo+(i:Nat) * 1) ((n:Int) - (i:Nat)) 1) where
 mem:=by simp
 obj:=fun i h st b hb=>by
  have e:b=it:=by simpa using hb
  subst e
  exact ⟨_,st,fun v z=>by
   have z':Data.fields _=Data.cell v:=z
   cases z'⟩
 keep:=fun i h h' st k=>k it (by simp) _ st
 item:=by
  intro X hP hw hK hc i pins s σ H E I hf st hg
  subst hP hw hK
  obtain ⟨f0,f1,f2,f3,f4,f5⟩:=hf it (by simp)
  have W:=Walks.range (prog:=X.prog) (w:=X.w) (I.ok.hd hc) it lo 1 n
  refine W.item i s _ _ hg st fun v h' tk hv st' kk=>?_
  obtain ⟨t,rfl⟩:=hv
  have I1:Inv X pins σ H { s with heap:=h',toks:=tk }:=I.turned (fun b o hb e=>kk b o (by simpa using hb) e) f0 f1 f3 f4 f5
  refine ⟨_,rfl,zCi (s:={ s with heap:=h',toks:=tk }) (n := "range_iterator") st' rfl rfl (by decide) ⟨.int (lo+i),H,I1,⟨t,?_⟩,⟨rfl,rfl⟩,st',fun b hb=>(hf b hb).1⟩⟩
  rw [Int.mul_one]
 done:=by
  intro X hP hw hK hc i pins s σ H E I hf st hg
  subst hP hw hK
  obtain ⟨f0,f1,f2,f3,f4,f5⟩:=hf it (by simp)
  exact wpAny_pyNext_range_end (I.ok.hd hc) st (by have:n<=i:=hg;omega) fun h' eb=>⟨rfl,I.turned (t':=s.toks) (fun b o hb e=>eb b o hb e) f0 f1 f3 f4 f5⟩
 self:=fun _ _ _ _ _ st h=>wpAny_pyIter_rangeiter st h
end L2
namespace L2
open PySem PySem.Spec PyProof.Rows
section
variable {X:Cx} {tg:Expr}
abbrev zIc (K:PySem.W.Frag) (tl:TE):TI:=fun σ H R=>tl σ H fun x H1=>∃ a,x=.ref a/\(∃ xs,SqL K H1 a xs)/\R (Itl K a) H1
theorem zEy {l:Expr} {tl:TE} (hl:PE X l tl):PI X tg l (zIc X.K tl):=by
 intro pins s σ H R I h
 refine thn (hl pins s σ H _ I h) fun v s1 ⟨x,H1,I1,r1,q1⟩=>?_
 obtain ⟨a,e,⟨xs,hq⟩,q⟩:=q1
 subst e
 cases r1
 obtain ⟨its,rv,p,hz⟩:=I1.list hq
 refine wpAny_pyIter_list p.isList ?_
 refine ⟨s1.heap.objs.size,[s1.heap.objs.size],_,_,H1,rfl,I1.kept (t':=s1.toks) fun b o e=>Heap.get?_push_of_some _ e,nZ a _,⟨_,Heap.get?_push_size _ rfl,rfl,rfl⟩,fun b hb=>?_,q⟩
 have e:b=s1.heap.objs.size:=by simpa using hb
 subst e
 exact I1.fpOk (Nat.le_refl _) (I1.hok.fresh (Nat.le_refl _))
theorem zCC {pins:List (Addr×Obj)} {σ:St} {H:Hp} {s:Shared} {R:It->Hp->Prop} {E:Value->Shared->Prop} {lo hi:Int} {t u v:Tok} {tk:Nat} (I:Inv X pins σ H s) (h1:-(2^62)<=lo) (h2:lo < 2^62) (h3:-(2^62)<=hi) (h4:hi < 2^62)
  (q:R (Itr lo (hi - lo).toNat) H):wpAny (model X.prog X.w) X.A (pyIter (.ref s.heap.objs.size)) (PIE X pins σ tg R) E { s with heap:=s.heap.push { cls:=.type "range", data:=.fields #[.int lo t,.int hi u,.int 1 v] },toks:=tk }:=by
 refine wpAny_pyIter_range (IsRange.new ..) (small_one h1 h2 h3 h4) ?_
 have I1:Inv X pins σ H { s with heap:=s.heap.push { cls:=.type "range", data:=.fields #[.int lo t,.int hi u,.int 1 v] },toks:=tk }:=I.kept fun b o e=>Heap.get?_push_of_some _ e
 refine ⟨(s.heap.push { cls:=.type "range", data:=.fields #[.int lo t,.int hi u,.int 1 v] }).objs.size,[(s.heap.push { cls:=.type "range", data:=.fields #[.int lo t,.int hi u,.int 1 v] }).objs.size],_,_,H,rfl,
  I1.kept (t':=tk) fun b o e=>Heap.get?_push_of_some _ e,yF _ lo (hi - lo).toNat,?_,fun b hb=>?_,q⟩
 ·have e1:lo+((0:Nat):Int) * 1=lo:=by simp
  have e2:(((hi - lo).toNat:Nat):Int) - ((0:Nat):Int)=Builtin.Range.rangeSize lo hi 1:=by rw [rangeSize_one];split<;>omega
  show IsRangeIter _ _ (lo+((0:Nat):Int) * 1) ((((hi - lo).toNat:Nat):Int) - ((0:Nat):Int)) 1
  rw [e1,e2]
  exact Heap.get?_push_size _ rfl
 ·have e:b=(s.heap.push { cls:=.type "range", data:=.fields #[.int lo t,.int hi u,.int 1 v] }).objs.size:=by simpa using hb
  subst e
  exact I1.fpOk (Nat.le_refl _) (I1.hok.fresh (Nat.le_refl _))
abbrev vE (ta:TA):TI:=fun σ H R=>ta σ H fun vs H1=>∃ j:Int,vs=[.int j]/\-(2^62)<=j/\j < 2^62/\R (Itr 0 j.toNat) H1
theorem zBI {a:Expr} {ta:TA} {p pos:Pos} (hg:Gl X "range") (hm:X.mg "range" = none) (ha:PA X [a] ta) (hs:starEach [a] X.env=[(false,eval a X.env)]:=by rfl):PI X tg (.Call (.Name "range" p) [a] [] pos) (vE ta):=by
 intro pins s σ H R I h
 refine Call_ (nB I hg hm boot_range (PyProof.Rows.callWith_type1 (thn (ha pos pins s σ H _ I h) fun us s1 ⟨vs,H1,I1,r1,q1⟩=>?_) hs rfl))
 obtain ⟨j,e,q1,q2,q⟩:=q1
 subst e
 cases r1 with
 | cons r rr=>
  cases rr
  obtain ⟨t,rfl⟩:=r
  exact call_range_1 (zCC I1 (by omega) (by omega) q1 q2 (by simpa using q))
abbrev zJf (wi:TI) (g:TG) (tb:TS):TS:=fun D σ H=>wi σ H fun J H1=>∃ W:Nat->Nat->St->Hp->Prop,(∃ m,W 0 m σ H1)/\∀ i m σ H,W i m σ H->
 (J.stop i H/\D.nx σ H)∨(J.go i H/\∃ N:St->Hp->Prop,(∀ σ' H',N σ' H'->∃ m',m' < m/\W (i+1) m' σ' H')/\∀ x H',J.yld i H x H'->g x σ H' fun σ2 H2=>tb { D with nx:=N,ct:=N,bk:=D.nx } σ2 H2)
def lK (fp:List Addr) (h:Heap):List (Addr×Obj):=fp.filterMap fun b=>(h.get? b).map fun o=>(b,o)
theorem cN {fp:List Addr} {h:Heap} {b:Addr} {o:Obj} (hb:b∈fp) (e:h.get? b=some o):(b,o)∈lK fp h:=List.mem_filterMap.mpr ⟨b,hb,by rw [e];rfl⟩
theorem zAq {fp:List Addr} {h:Heap} {p:Addr×Obj} (hp:p∈lK fp h):p.1∈fp/\h.get? p.1=some p.2:=by
 obtain ⟨b,hb,e⟩:=List.mem_filterMap.mp hp
 cases q:h.get? b with
 | none=>rw [q] at e;cases e
 | some o=>
  rw [q] at e
  have e':(b,o)=p:=Option.some.inj e
  subst e'
  exact ⟨hb,q⟩
theorem Inv.pinned {pins:List (Addr×Obj)} {σ:St} {H:Hp} {s:Shared} {fp:List Addr} (I:Inv X pins σ H s) (hf:∀ b∈fp,jR X pins H b) (ho:∀ b∈fp,∃ o,s.heap.get? b=some o/\∀ v,o.data≠.cell v):Inv X (pins++lK fp s.heap) σ H s:=
 I.pins_of fun p hp=>(List.mem_append.mp hp).elim (fun z=>I.pin p (List.mem_append_right _ z)) fun z=>by
  obtain ⟨hb,e⟩:=zAq z
  obtain ⟨f0,f1,f2,_⟩:=hf p.1 hb
  obtain ⟨o,e',d⟩:=ho p.1 hb
  rw [e] at e';cases e'
  exact ⟨e,f0,f1,f2,d⟩
theorem Inv.unpinned {pins pl:List (Addr×Obj)} {σ:St} {H:Hp} {s:Shared} (I:Inv X (pins++pl) σ H s):Inv X pins σ H s:=I.pins_of fun p hp=>I.pin p (List.mem_append_right _ (List.mem_append_left _ hp))
theorem zDf {iter:Expr} {body:List Stmt} {wi:TI} {g:TG} {tb:TS} {pos:Pos} (hp:PassesOwn (model X.prog X.w) X.A X.env X.xe) (hc:X.calm=true) (hi:PI X tg iter wi) (hg:PG X tg g) (hb:PSs X body tb)
  (hs:∀ x,foldedSetIterable iter X.env x=pure x:=by intro _;rfl):PS X (.For tg iter body [] pos) (zJf wi g tb):=by
 intro pins s σ H D I h
 refine wpAny_For (thn (hi pins s σ H _ I h) fun v s1 h1=>thn h1 fun itv s2 h2=>?_) hs
 obtain ⟨it,fp,tn,J,H2,e,I2,T,st2,f2,W,⟨m0,w0⟩,turn⟩:=h2
 subst e
 have stat:∀ {H':Hp},(∀ b∈fp,H' b=none)->∀ b∈fp,jR X pins H' b:=fun hn b hb=>⟨hn b hb,(f2 b hb).2⟩
 refine codeAny_forLoop_any (fun n s'=>∃ i σ' H',Inv X pins σ' H' s'/\tn i s'.heap/\(∀ b∈fp,H' b=none)/\W i n σ' H') ?_ m0 ⟨0,σ,H2,I2,st2,fun b hb=>(f2 b hb).1,w0⟩
 rintro n s3 ⟨i,σ3,H3,I3,st3,fr3,w3⟩
 rcases turn i n σ3 H3 w3 with ⟨stop,qn⟩ | ⟨go,N,hN,step⟩
 ·refine wpAny_passesOwn hp (thn (T.done X rfl rfl rfl hc i pins s3 σ3 H3 X.xe I3 (stat fr3) st3 stop) fun r s4 ⟨hr,I4⟩=>?_)
  subst hr
  exact wpAny_execs_nil ⟨σ3,H3,I4,qn⟩
 ·refine wpAny_passesOwn hp (thn (T.item X rfl rfl rfl hc i pins s3 σ3 H3 X.xe I3 (stat fr3) st3 go) fun r s4 ⟨u,hr,h4⟩=>?_)
  subst hr
  refine wpAny_passesOwn hp (thn h4 fun _ s5 ⟨x,H5,I5,r5,y5,st5,fr5⟩=>?_)
  have I5':=I5.pinned (stat fr5) (T.obj _ _ st5)
  refine wpAny_passesOwn hp (thn (hg _ s5 σ3 H5 x u _ I5' r5 (step x H5 y5)) fun _ s6 ⟨σ6,H6,I6,q6⟩=>?_)
  refine wpAny_passesOwn hp (thn (hb _ s6 σ6 H6 _ I6 q6) fun f s7 q7=>?_)
  have again:∀ {σ7:St} {H7:Hp},Inv X (pins++lK fp s5.heap) σ7 H7 s7->N σ7 H7->∃ m,m < n/\∃ i σ' H',Inv X pins σ' H' s7/\tn i s7.heap/\(∀ b∈fp,H' b=none)/\W i m σ' H':=fun {σ7 H7} I7 n7=>by
   obtain ⟨m',hm,w7⟩:=hN σ7 H7 n7
   refine ⟨m',hm,i+1,σ7,H7,I7.unpinned,T.keep _ _ _ st5 fun b hb o e=>(I7.pin (b,o) (List.mem_append_right _ (List.mem_append_right _ (cN hb e)))).1,fun b hb=>?_,w7⟩
   obtain ⟨o,e,d⟩:=T.obj _ _ st5 b hb
   exact (I7.pin (b,o) (List.mem_append_right _ (List.mem_append_right _ (cN hb e)))).2.1
  cases f with
  | next=>obtain ⟨σ7,H7,I7,n7⟩:=q7;exact again I7 n7
  | cont=>obtain ⟨σ7,H7,I7,n7⟩:=q7;exact again I7 n7
  | brk=>obtain ⟨σ7,H7,I7,q7⟩:=q7;exact ⟨σ7,H7,I7.unpinned,q7⟩
  | ret v=>obtain ⟨x7,σ7,H7,I7,r7,q7⟩:=q7;exact ⟨x7,σ7,H7,I7.unpinned,r7,q7⟩
end
end L2
namespace L2
open PySem PySem.Spec PyProof.Rows
abbrev R2:=V->V->Hp->VK->Prop
def OpR (X:Cx) (f:Value->Value->Sem Value) (r:R2):Prop:=
 ∀ (pins:List (Addr×Obj)) (s:Shared) (σ:St) (H:Hp) (x y:V) (v u:Value) (Q:VK),Inv X pins σ H s->cD x v->cD y u->r x y H Q->
  wpAny (model X.prog X.w) X.A (f v u) (EP X pins σ Q) X.xe s
def UnR (X:Cx) (f:Value->Sem Value) (r:V->Hp->VK->Prop):Prop:=
 ∀ (pins:List (Addr×Obj)) (s:Shared) (σ:St) (H:Hp) (x:V) (v:Value) (Q:VK),Inv X pins σ H s->cD x v->r x H Q->
  wpAny (model X.prog X.w) X.A (f v) (EP X pins σ Q) X.xe s
def iN (X:Cx) (f:Value) (r:List V->Hp->VK->Prop):Prop:=
 ∀ (pins:List (Addr×Obj)) (s:Shared) (σ:St) (H:Hp) (xs:List V) (us:List Value) (Q:VK),Inv X pins σ H s->cO xs us->r xs H Q->
  wpAny (model X.prog X.w) X.A (call f us) (EP X pins σ Q) X.xe s
abbrev tOp (r:R2) (ta tb:TE):TE:=fun σ H Q=>ta σ H fun x H1=>tb σ H1 fun y H2=>r x y H2 Q
abbrev tUn (r:V->Hp->VK->Prop) (ta:TE):TE:=fun σ H Q=>ta σ H fun x H1=>r x H1 Q
def rI (C:Int->Int->Prop) (g:Int->Int->V):R2:=fun x y H Q=>∃ i j,x=.int i/\y=.int j/\C i j/\Q (g i j) H
def rI0 (g:Int->Int->V):R2:=fun x y H Q=>∃ i j,x=.int i/\y=.int j/\Q (g i j) H
def rU (g:Int->V):V->Hp->VK->Prop:=fun x H Q=>∃ i,x=.int i/\Q (g i) H
section
variable {X:Cx} {a b c:Expr} {ta tb tc:TE} {pos:Pos}
theorem zIx (ha:PE X a ta) (hb:PE X b tb) {pins:List (Addr×Obj)} {s:Shared} {σ:St} {H:Hp} {R:V->V->Hp->Prop} (I:Inv X pins σ H s)
  (h:ta σ H fun x H1=>tb σ H1 fun y H2=>R x y H2) {Q:Value->Shared->Prop} {f:Value->Value->Sem Value}
  (hf:∀ v u s2 x y H2,Inv X pins σ H2 s2->cD x v->cD y u->R x y H2->wpAny (model X.prog X.w) X.A (f v u) Q X.xe s2):
  wpAny (model X.prog X.w) X.A (eval a X.env) (fun v s₁=>wpAny (model X.prog X.w) X.A (eval b X.env) (fun u s₂=>wpAny (model X.prog X.w) X.A (f v u) Q X.xe s₂) X.xe s₁) X.xe s:=by
 refine thn (ha pins s σ H _ I h) fun v s1 ⟨x,H1,I1,r1,q1⟩=>?_
 refine thn (hb pins s1 σ H1 _ I1 q1) fun u s2 ⟨y,H2,I2,r2,q2⟩=>?_
 exact hf v u s2 x y H2 I2 r1 r2 q2
theorem zBz {op:Operator} {r:R2} (ho:OpR X (binaryOp op) r) (ha:PE X a ta) (hb:PE X b tb):PE X (.BinOp a op b pos) (tOp r ta tb):=by
 intro pins s σ H Q I h
 exact wpAny_BinOp (zIx ha hb I h fun v u s2 x y H2 I2 rx ry q=>ho pins s2 σ H2 x y v u Q I2 rx ry q)
theorem zIj {op:UnaryOp} {r:V->Hp->VK->Prop} (ho:UnR X (unaryOp op) r) (ha:PE X a ta):PE X (.UnaryOp op a pos) (tUn r ta):=by
 intro pins s σ H Q I h
 exact UnaryOp_ (thn (ha pins s σ H _ I h) fun v s1 ⟨x,H1,I1,r1,q1⟩=>ho pins s1 σ H1 x v Q I1 r1 q1)
theorem opI {f:Value->Value->Sem Value} {C:Int->Int->Prop} {g:Int->Int->Int}
  (rule:∀ (i j:Int) (t u:Tok) (s:Shared) (Q:Value->Shared->Prop) (E:Value->Shared->Prop),C i j->Q (.int (g i j) s.toks) { s with toks:=s.toks+1 }->wpAny (model X.prog X.w) X.A (f (.int i t) (.int j u)) Q E s):
  OpR X f (rI C fun i j=>.int (g i j)):=by
 intro pins s σ H x y v u Q I rx ry h
 obtain ⟨i,j,rfl,rfl,hc,q⟩:=h
 obtain ⟨t,rfl⟩:=rx
 obtain ⟨t',rfl⟩:=ry
 exact rule i j t t' s _ _ hc ⟨.int (g i j),H,I.tok _,⟨_,rfl⟩,q⟩
theorem zJm {f:Value->Value->Sem Value} {g:Int->Int->Int}
  (rule:∀ (i j:Int) (t u:Tok) (s:Shared) (Q:Value->Shared->Prop) (E:Value->Shared->Prop),Q (.int (g i j) s.toks) { s with toks:=s.toks+1 }->wpAny (model X.prog X.w) X.A (f (.int i t) (.int j u)) Q E s):
  OpR X f (rI0 fun i j=>.int (g i j)):=by
 intro pins s σ H x y v u Q I rx ry h
 obtain ⟨i,j,rfl,rfl,q⟩:=h
 obtain ⟨t,rfl⟩:=rx
 obtain ⟨t',rfl⟩:=ry
 exact rule i j t t' s _ _ ⟨.int (g i j),H,I.tok _,⟨_,rfl⟩,q⟩
theorem zJp {f:Value->Value->Sem Value} {g:Int->Int->Bool}
  (rule:∀ (i j:Int) (t u:Tok) (s:Shared) (Q:Value->Shared->Prop) (E:Value->Shared->Prop),Q (.bool (g i j)) s->wpAny (model X.prog X.w) X.A (f (.int i t) (.int j u)) Q E s):
  OpR X f (rI0 fun i j=>.bl (g i j)):=by
 intro pins s σ H x y v u Q I rx ry h
 obtain ⟨i,j,rfl,rfl,q⟩:=h
 obtain ⟨t,rfl⟩:=rx
 obtain ⟨t',rfl⟩:=ry
 exact rule i j t t' s _ _ ⟨.bl (g i j),H,I,rfl,q⟩
def zHR (i j:Int):Prop:=(-(2^64) < i/\i < 2^64)∨(-(2^64) < j/\j < 2^64)
theorem zHR.ok {i j:Int} (h:zHR i j):IntMulOk i j:=by
 rcases h with ⟨h1,h2⟩ | ⟨h1,h2⟩
 ·exact .of_left (intBits_le_64 h1 h2)
 ·exact .of_right (intBits_le_64 h1 h2)
theorem zFP:OpR X (binaryOp .Add) (rI0 fun i j=>.int (i+j)):=zJm fun _ _ _ _ _ _ _ q=>add_int q
theorem vV:OpR X (binaryOp .Sub) (rI0 fun i j=>.int (i - j)):=zJm fun _ _ _ _ _ _ _ q=>sub_int q
theorem aY:OpR X (binaryOp .Mod) (rI (fun _ j=>j≠0) fun i j=>.int (i.fmod j)):=opI fun _ _ _ _ _ _ _ hc q=>mod_int' hc q
theorem unI {f:Value->Sem Value} {g:Int->Int}
  (rule:∀ (i:Int) (t:Tok) (s:Shared) (Q:Value->Shared->Prop) (E:Value->Shared->Prop),Q (.int (g i) s.toks) { s with toks:=s.toks+1 }->wpAny (model X.prog X.w) X.A (f (.int i t)) Q E s):
  UnR X f (rU fun i=>.int (g i)):=by
 intro pins s σ H x v Q I rx h
 obtain ⟨i,rfl,q⟩:=h
 obtain ⟨t,rfl⟩:=rx
 exact rule i t s _ _ ⟨.int (g i),H,I.tok _,⟨_,rfl⟩,q⟩
theorem zGU:UnR X (unaryOp .USub) (rU fun i=>.int (-i)):=unI fun _ _ _ _ _ q=>neg_int q
end
section
variable {X:Cx} {a b c:Expr} {ta tb tc:TE} {pos:Pos}
theorem sN:OpR X (compareOp .Lt) (rI0 fun i j=>.bl (decide (i < j))):=zJp fun _ _ _ _ _ _ _ q=>lt_int q
theorem zCd:OpR X (compareOp .Gt) (rI0 fun i j=>.bl (decide (j < i))):=zJp fun _ _ _ _ _ _ _ q=>gt_int q
theorem OpR.or {f:Value->Value->Sem Value} {r r':R2} (h:OpR X f r) (h':OpR X f r'):OpR X f (fun x y H Q=>r x y H Q∨r' x y H Q):=by
 intro pins s σ H x y v u Q I rx ry q
 rcases q with q | q
 ·exact h pins s σ H x y v u Q I rx ry q
 ·exact h' pins s σ H x y v u Q I rx ry q
theorem aU (b:Expr) {op:CmpOp} (h:op≠.In:=by decide) (h2:op≠.NotIn:=by decide):behindInMarks op b=false:=by
 have e1:(op==CmpOp.In)=false:=by cases op<;>first | rfl | exact absurd rfl h
 have e2:(op==CmpOp.NotIn)=false:=by cases op<;>first | rfl | exact absurd rfl h2
 cases b<;>simp [behindInMarks,e1,e2]
theorem zDH {op:CmpOp} {r:R2} (ho:OpR X (compareOp op) r) (ha:PE X a ta) (hb:PE X b tb) (hm:behindInMarks op b=false):PE X (.Compare a [op] [b] pos) (tOp r ta tb):=by
 intro pins s σ H Q I h
 exact wpAny_Compare1 (zIx ha hb I h fun v u s2 x y H2 I2 rx ry q=>ho pins s2 σ H2 x y v u Q I2 rx ry q) hm
abbrev zHx (t:TE):TT:=fun σ H Q=>t σ H fun x H'=>∃ k,x=.bl k/\Q k H'
theorem zBe {op:CmpOp} {r:R2} (ho:OpR X (compareOp op) r) (ha:PE X a ta) (hb:PE X b tb) (hm:behindInMarks op b=false):PT X (.Compare a [op] [b] pos) (zHx (tOp r ta tb)):=by
 intro pins s σ H Q I h
 refine wpAny_isTrue_Compare1 (thn (ha pins s σ H _ I h) fun v s1 ⟨x,H1,I1,r1,q1⟩=>thn (hb pins s1 σ H1 _ I1 q1) fun u s2 ⟨y,H2,I2,r2,q2⟩=>
  thn (ho pins s2 σ H2 x y v u _ I2 r1 r2 q2) fun c s3 ⟨z,H3,I3,r3,k,e,q3⟩=>?_) hm
 subst e
 cases r3
 exact wpAny_truthy_bool ⟨H3,I3,q3⟩
theorem qA:(sizeLine:Nat) < 2^63:=by rw [sizeLine_eq];decide
theorem pD {x:V} {us:List Value} (r:cO [x] us):∃ u,us=[u]/\cD x u:=by
 cases r with
 | cons r1 r2=>cases r2;exact ⟨_,rfl,r1⟩
theorem zER {x y:V} {us:List Value} (r:cO [x,y] us):∃ u w',us=[u,w']/\cD x u/\cD y w':=by
 cases r with
 | cons r1 r2=>
  cases r2 with
  | cons r3 r4=>cases r4;exact ⟨_,_,rfl,r1,r3⟩
theorem mQ:iN X (.builtin "abs") (fun xs H Q=>∃ i,xs=[.int i]/\Q (.int (if i < 0 then -i else i)) H):=by
 intro pins s σ H xs us Q I r h
 obtain ⟨i,rfl,q⟩:=h
 obtain ⟨u,rfl,t,rfl⟩:=pD r
 exact call_abs_int fun u tk=>⟨.int (if i < 0 then -i else i),H,I.tok _,⟨_,rfl⟩,q⟩
theorem tU:iN X (.type "int") (fun xs H Q=>(∃ i,xs=[.int i]/\Q (.int i) H)∨∃ k,xs=[.bl k]/\Q (.int (if k then 1 else 0)) H):=by
 intro pins s σ H xs us Q I r h
 rcases h with ⟨i,rfl,q⟩ | ⟨k,rfl,q⟩
 ·obtain ⟨u,rfl,t,rfl⟩:=pD r
  exact call_int_int ⟨.int i,H,I,⟨_,rfl⟩,q⟩
 ·obtain ⟨u,rfl,r1⟩:=pD r
  cases r1
  exact call_int_bool ⟨.int (if k then 1 else 0),H,I.tok _,⟨_,rfl⟩,q⟩
end
end L2
namespace L2
open PySem PySem.Spec PyProof.Rows
section
variable {prog:Program} {w:World} {A:Around} {E:Value->Shared->Prop} {s:Shared} {K:PySem.W.Frag} {x dx C f:Addr} {mA:Str->Option Value} {name:Str} {v:Value}
end
section
variable {P:Program} {w:World} {H H':Hp} {h h':Heap} {a C dx:Addr} {fs fs':List (Str×V)}
end
section
variable {X:Cx} {pins:List (Addr×Obj)} {σ:St} {H:Hp} {s:Shared} {a C dx:Addr} {fs:List (Str×V)} {f:Str} {v:V} {A:Around} {E:Value->Shared->Prop}
end
section
variable {X:Cx} {o e value:Expr} {f:Str} {pos pos' tpos:Pos} {ta tv:TE}
end
section
variable {X:Cx} {pins:List (Addr×Obj)} {σ:St} {H:Hp} {s:Shared} {A:Around} {E:Value->Shared->Prop} {Q:Value->Shared->Prop} {c:Value} {b:Bool}
end
end L2
namespace L2
open PySem PySem.Spec PyProof.Rows
structure Room (k:Nat) (A:Around):Prop where
 hd:A.handled=none
 dp:A.depth+3 * k+5 < recursionLimit
 un:A.units+16 * k+200 < cLine
theorem Room.mono {j k:Nat} {A:Around} (r:Room k A) (h:j<=k):Room j A:=⟨r.hd,by have:=r.dp;omega,by have:=r.un;omega⟩
theorem Room.deeper {k:Nat} {A:Around} (r:Room (k+1) A) (env:Env):Room k (A.deeper env):=
 ⟨r.hd,by have:=r.dp;show A.depth+1+3 * k+5 < _;omega,by have:=r.un;show A.units+3+16 * k+200 < _;omega⟩
theorem Room.depth {k:Nat} {A:Around} (r:Room k A):A.depth < recursionLimit:=by have:=r.dp;omega
theorem Room.units {k:Nat} {A:Around} (r:Room k A):A.units+64 < cLine:=by have:=r.un;omega
abbrev zJx:TA:=fun _ H Q=>Q [] H
abbrev zIe (ta:TE) (tr:TA):TA:=fun σ H Q=>ta σ H fun x H1=>tr σ H1 fun xs H2=>Q (x::xs) H2
section
variable {X:Cx} {e:Expr} {es:List Expr} {te:TE} {t:TA} {pos:Pos}
theorem gJ:PA X [] zJx:=fun _ _ _ _ H Q I h=>Calls.spliced_nil ⟨[],H,I,.nil,h⟩
theorem dE (ha:PE X e te) (hr:PA X es t) (hs:starEach (e::es) X.env=(false,eval e X.env)::starEach es X.env:=by rfl):PA X (e::es) (zIe te t):=by
 intro pos pins s σ H Q I h
 rw [hs]
 show wpAny _ _ (spliced ((false,eval e X.env)::backTo pos (starEach es X.env))) _ _ s
 refine Calls.spliced_cons (thn (ha pins s σ H _ I h) fun u s1 ⟨x,H1,I1,r1,q1⟩=>?_)
 exact thn (hr pos pins s1 σ H1 _ I1 q1) fun us s2 ⟨xs,H2,I2,r2,q2⟩=>⟨x::xs,H2,I2,.cons r1 r2,q2⟩
abbrev zKa (t:TA):TE:=fun σ H Q=>t σ H fun xs H1=>xs.length<=sizeLine/\∀ p,H1 p=none->Q (.ref p) (upd H1 p (.tup xs))
abbrev zJY (t:TA):TE:=fun σ H Q=>t σ H fun xs H1=>xs.length<=sizeLine/\∀ p,H1 p=none->Q (.ref p) (upd H1 p (.lst xs))
theorem zDC {x1} (h:PA X es t):PE X (.Tuple es x1 pos) (zKa t):=by
 intro pins s σ H Q I hq
 refine wpAny_Tuple_spliced (thn (h pos pins s σ H _ I hq) fun us s1 ⟨xs,H1,I1,r,z,q⟩=>⟨by rw [<-r.length];exact z,?_⟩)
 have hf:H1 s1.heap.objs.size=none:=I1.hok.fresh (Nat.le_refl _)
 refine ⟨.ref s1.heap.objs.size,upd H1 s1.heap.objs.size (.tup xs),I1.laid (t':=s1.toks) (fun b u e=>Heap.get?_push_of_some _ e) (Nat.le_refl _) ?_,rfl,q _ hf⟩
 exact ⟨z,us,r,⟨_,Heap.get?_push_size _ rfl,rfl,_,rfl⟩⟩
theorem zGx (h:PA X es t):PE X (.List es pos) (zJY t):=by
 intro pins s σ H Q I hq
 refine wpAny_List_spliced (thn (h pos pins s σ H _ I hq) fun us s1 ⟨xs,H1,I1,r,z,q⟩=>⟨by rw [<-r.length];exact z,?_⟩)
 have hf:H1 s1.heap.objs.size=none:=I1.hok.fresh (Nat.le_refl _)
 refine ⟨.ref s1.heap.objs.size,upd H1 s1.heap.objs.size (.lst xs),I1.laid (t':=s1.toks) (fun b u e=>Heap.get?_push_of_some _ e) (Nat.le_refl _) ?_,rfl,q _ hf⟩
 exact ⟨z,us,0,r,Heap.get?_push_size _ rfl⟩
end
abbrev Sp:=List V->Hp->VK->XK->Prop
abbrev CXT:=List Env->Hp->Shared->XK->Value->Shared->Prop
structure Env0 (P:Program) (w:World) (K:PySem.W.Frag) (mg:Str->Option Value) (base:Heap) (A:Around) (outer:List Env) (s:Shared) (H:Hp):Prop where
 frames:A.frames=some outer
 mod:Mod K mg base
 bs:∀ b o,base.get? b=some o->s.heap.get? b=some o/\H b=none
 bsz:base.objs.size<=s.heap.objs.size
 funs:s.heap.FunFrames base outer
 frf:∀ b∈frs outer,H b=none
 hok:HOk P w H s.heap
 bare:AllBare s.gens
def CE (outer:List Env) (P:Program) (w:World) (H:Hp) (s:Shared) (Q:VK) (u:Value) (s':Shared):Prop:=
 ∃ v H',s'.os=s.os/\AllBare s'.gens/\Un (frs outer) [] H H' s.heap s'.heap/\HOk P w H' s'.heap/\cD v u/\Q v H'
def CR (CX:CXT) (outer:List Env) (P:Program) (w:World) (H:Hp) (s:Shared) (Q:VK) (E:XK) (r:Result) (s':Shared):Prop:=
 match r with
 | .ok (.ret u)=>CE outer P w H s Q u s'
 | .ok _=>False
 | .error e=>CX outer H s E e s'
structure FnOk (P:Program) (w:World) (K:PySem.W.Frag) (mg:Str->Option Value) (base:Heap) (CX:CXT) (k:Nat) (f:Addr) (fd:FuncData) (ps:List Str) (sp:Sp):Prop where
 len:∀ vs H Q E,sp vs H Q E->vs.length=ps.length
 run:∀ (A:Around) (outer:List Env) (s:Shared) (H:Hp) (args:Args) (us:List Value) (vs:List V) (Q:VK) (E:XK),Room k A->Env0 P w K mg base A outer s H->BindsTo s fd args (ps.zip us)->cO vs us->sp vs H Q E->
  codeAny (model P w) A (.call (.ref f) args) (CR CX outer P w H s Q E) s
theorem FnOk.mono {P:Program} {w:World} {K:PySem.W.Frag} {mg:Str->Option Value} {base:Heap} {CX:CXT} {j k:Nat} {f:Addr} {fd:FuncData} {ps:List Str} {sp:Sp} (F:FnOk P w K mg base CX j f fd ps sp) (h:j<=k):
  FnOk P w K mg base CX k f fd ps sp:=⟨F.len,fun A outer s H args us vs Q E hr=>F.run A outer s H args us vs Q E (hr.mono h)⟩
theorem FnOk.imp {P:Program} {w:World} {K:PySem.W.Frag} {mg:Str->Option Value} {base:Heap} {CX:CXT} {k:Nat} {f:Addr} {fd:FuncData} {ps:List Str} {sp sp':Sp} (F:FnOk P w K mg base CX k f fd ps sp)
  (h:∀ vs H Q E,sp' vs H Q E->sp vs H Q E):FnOk P w K mg base CX k f fd ps sp':=
 ⟨fun vs H Q E q=>F.len vs H Q E (h _ _ _ _ q),fun A outer s H args us vs Q E hr he hb hv hs=>F.run A outer s H args us vs Q E hr he hb hv (h _ _ _ _ hs)⟩
theorem Env0.in1 {P:Program} {w:World} {K:PySem.W.Frag} {mg:Str->Option Value} {base:Heap} {A:Around} {outer:List Env} {s:Shared} {H:Hp} (e:Env0 P w K mg base A outer s H):
  Env0 P w K mg base A.in1 outer s H:=⟨e.frames,e.mod,e.bs,e.bsz,e.funs,e.frf,e.hok,e.bare⟩
section
variable {X:Cx} {pins:List (Addr×Obj)} {σ:St} {H:Hp} {s s':Shared}
theorem Inv.env0 (I:Inv X pins σ H s):Env0 X.prog X.w X.K X.mg X.base X.A X.stack s H:=
 ⟨I.ok.frames,I.ok.mod,I.bs,Nat.le_trans I.ok.bsz I.sz,I.stack,I.stkFree,I.hok,I.bare⟩
theorem Inv.after {Q:VK} {u:Value} (I:Inv X pins σ H s) (h:CE X.stack X.prog X.w H s Q u s'):EP X pins σ Q u s':=by
 obtain ⟨v,H',os,bare,un,hok,r,q⟩:=h
 obtain ⟨hh,g,d,t,os'⟩:=s'
 obtain rfl:os'=s.os:=os
 exact ⟨v,H',I.call (h':=hh) (g':=g) (d':=d) (t':=t) (ch:=[]) un hok bare (fun b z=>absurd z (by simp)),r,q⟩
end
abbrev zFm (sp:Sp) (dvs:List V) (E:XK) (t:TA):TE:=fun σ H Q=>t σ H fun vs H1=>sp (vs++dvs) H1 Q E
def sO (K:PySem.W.Frag) (fd:FuncData) (ps:List Str) (ds:List Value):Prop:=
 ∀ (s:Shared) (us:List Value),K.In s.heap->(us++ds).length=ps.length->BindsTo s fd ⟨us,[]⟩ (ps.zip (us++ds))
theorem sO.all {K:PySem.W.Frag} {fd:FuncData} {ps:List Str} (h:∀ us:List Value,us.length=ps.length->bindArgs fd ⟨us,[]⟩=pure (ps.zip us)):sO K fd ps []:=fun s us _ hl=>by
 rw [List.append_nil] at hl ⊢
 exact .of_eq (h us hl)
def wJ (CX:CXT) (X:Cx) (E:XK):Prop:=∀ (pins:List (Addr×Obj)) (σ:St) (H:Hp) (s:Shared) (e:Value) (s':Shared),Inv X pins σ H s->CX X.stack H s E e s'->X.xe e s'
section
variable {X:Cx} {CX:CXT} {k:Nat} {f C:Addr} {fd:FuncData} {ps:List Str} {sp:Sp} {dvs:List V} {ds:List Value} {E:XK} {x m:Str} {p pos apos:Pos} {e o:Expr} {es:List Expr} {ta:TE} {t:TA}
theorem zHk {pins:List (Addr×Obj)} {σ:St} {H:Hp} {s:Shared} {Q:VK} {us:List Value} {vs:List V} (F:FnOk X.prog X.w X.K X.mg X.base CX k f fd ps sp) (hr:Room k X.A) (hb:sO X.K fd ps ds) (hd:cO dvs ds) (hx:wJ CX X E)
  (I:Inv X pins σ H s) (r:cO vs us) (h:sp (vs++dvs) H Q E):wpAny (model X.prog X.w) X.A (call (.ref f) us) (EP X pins σ Q) X.xe s:=by
 have r2:cO (vs++dvs) (us++ds):=r.append hd
 have hl:(us++ds).length=ps.length:=by rw [<-r2.length];exact F.len _ _ _ _ h
 refine wpAny_call (codeAny_mono (F.run X.A X.stack s H ⟨us,[]⟩ (us++ds) (vs++dvs) Q E hr I.env0 (hb s us I.kIn hl) r2 h) fun r s' hq=>?_)
 cases r with
 | error e=>exact hx pins σ H s e s' I hq
 | ok fl=>
  cases fl with
  | ret u=>exact I.after hq
  | next=>exact False.elim hq
  | brk=>exact False.elim hq
  | cont=>exact False.elim hq
theorem uZ (F:FnOk X.prog X.w X.K X.mg X.base CX k f fd ps sp) (hr:Room k X.A) (hg:Gl X x) (hm:X.mg x=some (.ref f)) (hk:PySem.W.keepIn X.K (.ref f)=true) (hb:sO X.K fd ps ds) (hd:cO dvs ds) (hx:wJ CX X E)
  (ha:PA X (e::es) t) (hdb:(x==("__debug__" : Str))=false:=by decide) (he:starEach (e::es) X.env=(false,eval e X.env)::starEach es X.env:=by rfl) (hpl:(backTo pos (starEach es X.env)).any (·.1)=false:=by rfl):
  PE X (.Call (.Name x p) (e::es) [] pos) (zFm sp dvs E t):=by
 intro pins s σ H Q I h
 refine wpAny_Call_Name_kw (nV I hg hm ?_ hdb)
 refine PySem.W.callWith_K (h₀:=X.base) I.ok.mod.kin hk (thn (ha pos pins s σ H _ I h) fun us s1 ⟨vs,H1,I1,r,q⟩=>⟨I1.kIn,?_⟩) he hpl
 exact zHk F hr hb hd hx I1 r q
end
section
variable {X:Cx} {CX:CXT} {k:Nat} {f C:Addr} {fd:FuncData} {ps ks:List Str} {sp:Sp} {E:XK} {x m:Str} {p pos apos kpos:Pos} {e o:Expr} {es:List Expr} {kws:List Keyword} {te ta:TE} {t tk:TA} {nm:Option Str}
variable {g:List Value->List Value->List Value} {gV:List V->List V->List V}
end
structure FnScope (N P:List Str) (sc:Scope):Prop where
 kind:sc.kind=.function
 co:sc.isCoroutine=false
 gen:sc.isGenerator=false
 nd:N.Nodup
 pre:N.take P.length=P
 par:∀ x∈P,sc.names.lookup x=some .local∨sc.names.lookup x=some .cell
 nofree:∀ y∈sc.names,y.2≠.free
theorem tW {kindOf:Str->Option NameKind} {x:Str}:∀ {binds:List (Str×Value)} {m:Str->Option Value},(∀ v,(x,v)∉binds)->bindL kindOf binds m x=m x
 | [],_,_=>rfl
 | (n,v)::r,m,h=>by
  unfold bindL
  rw [tW fun w hw=>h w (List.mem_cons_of_mem _ hw)]
  split
  ·have:x≠n:=by rintro rfl;exact h v List.mem_cons_self
   simp [this]
  ·rfl
theorem sC {kindOf:Str->Option NameKind} {x:Str}:∀ {binds:List (Str×Value)} {m:Str->Option Value},(∀ v,(x,v)∉binds)->bindC kindOf binds m x=m x
 | [],_,_=>rfl
 | (n,v)::r,m,h=>by
  unfold bindC
  rw [sC fun w hw=>h w (List.mem_cons_of_mem _ hw)]
  split
  ·rfl
  ·have:x≠n:=by rintro rfl;exact h v List.mem_cons_self
   simp [this]
theorem tL {kindOf:Str->Option NameKind} {x:Str} {v:Value}:∀ {P:List Str} {vs:List Value} {i:Nat} {m:Str->Option Value},P.Nodup->P[i]?=some x->vs[i]?=some v->kindOf x=some .local->
  bindL kindOf (P.zip vs) m x=some v
 | [],_,_,_,_,h,_,_=>by simp at h
 | _::_,[],_,_,_,_,h,_=>by simp at h
 | p::P,w::vs,0,m,nd,h1,h2,hk=>by
  simp at h1 h2;subst h1;subst h2
  show bindL kindOf ((p,w)::P.zip vs) m p=_
  unfold bindL
  rw [tW fun v hv=>(List.nodup_cons.mp nd).1 (List.of_mem_zip hv).1,if_pos hk]
  simp
 | p::P,w::vs,i+1,m,nd,h1,h2,hk=>by
  show bindL kindOf ((p,w)::P.zip vs) m x=_
  unfold bindL
  exact tL (i:=i) (List.nodup_cons.mp nd).2 (by simpa using h1) (by simpa using h2) hk
theorem sU {kindOf:Str->Option NameKind} {x:Str} {v:Value}:∀ {P:List Str} {vs:List Value} {i:Nat} {m:Str->Option Value},P.Nodup->P[i]?=some x->vs[i]?=some v->kindOf x≠some .local->
  bindC kindOf (P.zip vs) m x=some v
 | [],_,_,_,_,h,_,_=>by simp at h
 | _::_,[],_,_,_,_,h,_=>by simp at h
 | p::P,w::vs,0,m,nd,h1,h2,hk=>by
  simp at h1 h2;subst h1;subst h2
  show bindC kindOf ((p,w)::P.zip vs) m p=_
  unfold bindC
  rw [sC fun v hv=>(List.nodup_cons.mp nd).1 (List.of_mem_zip hv).1,if_neg hk]
  simp
 | p::P,w::vs,i+1,m,nd,h1,h2,hk=>by
  show bindC kindOf ((p,w)::P.zip vs) m x=_
  unfold bindC
  exact sU (i:=i) (List.nodup_cons.mp nd).2 (by simpa using h1) (by simpa using h2) hk
def start (N:List Str) (vs:List V):St:=vs.map some++List.replicate (N.length - vs.length) none
def xG (CX:CXT) (P:Program) (w:World) (K:PySem.W.Frag) (mg:Str->Option Value) (base:Heap) (N:List Str) (qual:Str) (scope:Scope) (f:Addr) (cd:Value) (A:Around) (outer:List Env) (s:Shared) (H:Hp) (E:XK):Cx where
 prog:=P
 w:=w
 K:=K
 mg:=mg
 base:=base
 A:=A.deeper (envOfC qual scope s.heap.objs.size f cd)
 N:=N
 s₀:=s
 H₀:=H
 env:=envOfC qual scope s.heap.objs.size f cd
 outer:=outer
 stack:=envOfC qual scope s.heap.objs.size f cd::outer
 ex:=[]
 calm:=true
 fn:=fun _=>true
 pn:=[]
 xe:=fun e s'=>wpAny (model P w) (A.deeper (envOfC qual scope s.heap.objs.size f cd)) (leaving (envOfC qual scope s.heap.objs.size f cd) e) (fun _ s''=>CX outer H s E e s'') (fun e' s''=>CX outer H s E e' s'') s'
theorem wL {sc:Scope} {n:Nat} {x:Str} (h:sc.names.lookup x=some .cell):∃ c,(cellsFrom n sc.names []).lookup x=some c:=by
 have q:=PySem.W.cellsFrom_some sc.names n [] (.inl h)
 exact Option.isSome_iff_exists.mp q
theorem zBE {CX:CXT} {P:Program} {w:World} {K:PySem.W.Frag} {mg:Str->Option Value} {base:Heap} {N ps:List Str} {qual:Str} {scope:Scope} {f:Addr} {cd:Value} {A:Around} {outer:List Env} {s s1:Shared} {H:Hp} {E:XK} {us:List Value} {vs:List V}
  (S:FnScope N ps scope) (hd:A.handled=none) (e0:Env0 P w K mg base A outer s H) (hl:vs.length=ps.length) (r:cO vs us)
  (x:InCallC s s.heap.objs.size (bindL (envOfC qual scope s.heap.objs.size f cd).kindOf (ps.zip us) fun _=>none) (cellsFrom (s.heap.objs.size+1) scope.names []) (bindC (envOfC qual scope s.heap.objs.size f cd).kindOf (ps.zip us) fun _=>none) s1):
  Inv (xG CX P w K mg base N qual scope f cd A outer s H E) [] (start N vs) H s1:=by
 have hpl:ps.length<=N.length:=by have:=congrArg List.length S.pre;rw [List.length_take] at this;omega
 obtain ⟨h1,tk,rfl,hk⟩:=x.done
 have noA:∀ b:Addr,b∉(xG CX P w K mg base N qual scope f cd A outer s H E).ex:=fun b z=>absurd (show b∈([]:List Addr) from z) (by simp)
 refine ⟨⟨e0.mod,S.kind,rfl,rfl,Nat.le_refl _,fun y z c h1 h2=>?_,fun y hy=>?_,fun y c _ h=>?_,fun _=>hd,Around.frames_deeper e0.frames,.inr ⟨rfl,rfl⟩,fun b z=>absurd z (noA b),e0.bs,e0.bsz,fun b _ _=>noA b,fun b z=>absurd z (noA b),e0.funs,e0.frf⟩,
  rfl,e0.bare,Un.kept hk,⟨_,x.toInCall.ns,fun i y v h1 h2 h3=>?_⟩,fun y c h=>⟨_,x.cell y c h⟩,e0.hok.fresh (Nat.le_refl _),fun y c h=>?_,fun p hp=>absurd (show p∈([]:List (Addr×Obj)) from hp) (by simp),e0.hok.kept hk,?_⟩
 ·exact name_of_addr x.apart (PySem.mem_of_lookup h1) (PySem.mem_of_lookup h2)
 ·have hy:scope.names.lookup y=some .cell∨scope.names.lookup y=some .free:=hy
  rcases hy with hy | hy
  ·exact wL hy
  ·exact absurd rfl (S.nofree _ (PySem.mem_of_lookup hy))
 ·exact Nat.le_of_lt (x.above y c (PySem.mem_of_lookup h))
 ·have hi:i < vs.length:=by
   unfold start at h2
   by_cases hi:i < vs.length
   ·exact hi
   ·rw [List.getElem?_append_right (by simpa using hi)] at h2
    rw [List.getElem?_replicate] at h2
    split at h2<;>cases h2
  have ha:vs[i]?=some v:=by
   unfold start at h2
   rw [List.getElem?_append_left (by simpa using hi),List.getElem?_map] at h2
   cases e:vs[i]? with
   | none=>rw [e] at h2;cases h2
   | some a=>rw [e] at h2;cases h2;rfl
  obtain ⟨u,hu,rv⟩:=r.get ha
  have hp:ps[i]?=some y:=by
   rw [<-S.pre,List.getElem?_take_of_lt (by omega)];exact h1
  have ndP:ps.Nodup:=by rw [<-S.pre];exact S.nd.sublist (List.take_sublist _ _)
  refine ⟨u,rv,?_⟩
  rcases S.par y (List.mem_of_getElem? hp) with k | k
  ·exact .inl ⟨k,tL ndP hp hu k⟩
  ·obtain ⟨c,e⟩:=wL (n:=s.heap.objs.size+1) k
   refine .inr ⟨.inl k,c,e,?_⟩
   have q:=x.cell y c e
   rw [sU ndP hp hu (by show scope.names.lookup y≠_;rw [k];decide)] at q
   exact q
 ·exact e0.hok.fresh (Nat.le_of_lt (x.above y c (PySem.mem_of_lookup h)))
 ·unfold start
  show _=N.length
  rw [List.length_append,List.length_map,List.length_replicate]
  omega
theorem zGl {CX:CXT} {P:Program} {w:World} {K:PySem.W.Frag} {mg:Str->Option Value} {base:Heap} {k:Nat} {f:Addr} {name qual:Str} {params:Arguments} {body:List Stmt} {scope:Scope} {dV kV doc pm cdv ct oc:Value} {an od:Option Addr}
  {osl:Array (Option Value)} {N ps:List Str} {sp:Sp} (lk:K.lookup f=some ⟨oc,od,.func (PySem.W.fnOf name qual params body scope dV kV doc pm an cdv ct),osl⟩) (hcd:PySem.W.codeIn K cdv qual=true) (S:FnScope N ps scope)
  (len:∀ vs H Q E,sp vs H Q E->vs.length=ps.length)
  (hbody:∀ (A:Around) (outer:List Env) (s:Shared) (H:Hp) (vs:List V) (Q:VK) (E:XK),Room k (A.deeper (envOfC qual scope s.heap.objs.size f cdv))->sp vs H Q E->
   ∃ t,PSs (xG CX P w K mg base N qual scope f cdv A outer s H E) body t/\t { nx:=fun _ H'=>Q .non H',rt:=Q } (start N vs) H):
  FnOk P w K mg base CX (k+1) f (PySem.W.fnOf name qual params body scope dV kV doc pm an cdv ct) ps sp:=by
 refine ⟨len,fun A outer s H args us vs Q E hr e0 hb r hsp=>?_⟩
 have hl:=len _ _ _ _ hsp
 have KX:K.In s.heap:=e0.mod.kin.keeps fun b o e=>(e0.bs b o e).1
 have lim:s.heap.NoLimit:=e0.mod.nolimit.keeps fun b o e=>(e0.bs b o e).1
 have hkind:∀ y∈ps.zip us,scope.names.lookup y.1=some .local∨(scope.names.lookup y.1=some .cell/\((cellsFrom (s.heap.objs.size+1) scope.names []).lookup y.1).isSome=true):=fun ⟨n,v⟩ hy=>by
  rcases S.par n (List.of_mem_zip hy).1 with q | q
  ·exact .inl q
  ·exact .inr ⟨q,PySem.W.cellsFrom_some _ _ _ (.inl q)⟩
 refine codeAny_call_function hr.depth (KX _ _ lk) rfl S.co S.gen rfl (PySem.W.codeRec_of KX hcd) (hb _ _ _ _ ?_)
 refine wpAny_newFunctionEnv_cells S.kind hkind fun env he s1 x=>?_
 subst he
 refine ⟨lim.keeps x.toInCall.keep,codeAny_func ?_⟩
 obtain ⟨t,ht,hq⟩:=hbody A outer s H vs Q E (hr.deeper _) hsp
 have I:Inv (xG CX P w K mg base N qual scope f cdv A outer s H E) [] (start N vs) H s1:=zBE S hr.hd e0 hl r x
 refine wpAny_mono (ht [] s1 (start N vs) H _ I hq) (fun fl s' hs=>?_) fun e s' hs=>hs
 have fin:∀ {σ':St} {H':Hp} {v:V} {u:Value},Inv (xG CX P w K mg base N qual scope f cdv A outer s H E) [] σ' H' s'->cD v u->Q v H'->CE outer P w H s Q u s':=
  fun {σ' H' v u} J rv q=>⟨v,H',J.os,J.bare,J.base,J.hok,rv,q⟩
 cases fl with
 | ret u=>
  obtain ⟨v,σ',H',J,rv,q⟩:=hs
  exact fin J rv q
 | next=>
  obtain ⟨σ',H',J,q⟩:=hs
  exact fin (v:=V.non) (u:=Value.none) J rfl q
 | brk=>
  obtain ⟨_,_,_,q⟩:=hs
  exact False.elim q
 | cont=>
  obtain ⟨_,_,_,q⟩:=hs
  exact False.elim q
end L2
namespace L2
open PySem PySem.Spec PyProof.Rows
section
variable {X:Cx} {x:Str} {p pos:Pos} {e:Expr} {es:List Expr} {t:TA} {id T:String} {r:List V->Hp->VK->Prop}
abbrev tCB (r:List V->Hp->VK->Prop) (t:TA):TE:=fun σ H Q=>t σ H fun vs H1=>r vs H1 Q
theorem iJ (hc:iN X (.builtin id) r) (hg:Gl X x) (hm:X.mg x=none) (hv:bootBuiltins x=some (.builtin id)) (ha:PA X (e::es) t) (hn:x ≠ "__name__" := by decide) (hdb:(x==("__debug__" : Str))=false:=by decide)
  (he:starEach (e::es) X.env=(false,eval e X.env)::starEach es X.env:=by rfl) (hpl:(backTo pos (starEach es X.env)).any (·.1)=false:=by rfl):PE X (.Call (.Name x p) (e::es) [] pos) (tCB r t):=by
 intro pins s σ H Q I h
 refine wpAny_Call_Name_kw (nB I hg hm hv ?_ hn hdb)
 exact PyProof.Rows.callWith_builtin1 (thn (ha pos pins s σ H _ I h) fun us s1 ⟨vs,H1,I1,r1,q1⟩=>hc pins s1 σ H1 vs us Q I1 r1 q1) he hpl
theorem tR (hc:iN X (.type T) r) (hg:Gl X x) (hm:X.mg x=none) (hv:bootBuiltins x=some (.type T)) (ha:PA X (e::es) t) (hn:x ≠ "__name__" := by decide) (hdb:(x==("__debug__" : Str))=false:=by decide)
  (he:starEach (e::es) X.env=(false,eval e X.env)::starEach es X.env:=by rfl) (hpl:(backTo pos (starEach es X.env)).any (·.1)=false:=by rfl):PE X (.Call (.Name x p) (e::es) [] pos) (tCB r t):=by
 intro pins s σ H Q I h
 refine wpAny_Call_Name_kw (nB I hg hm hv ?_ hn hdb)
 exact PyProof.Rows.callWith_type1 (thn (ha pos pins s σ H _ I h) fun us s1 ⟨vs,H1,I1,r1,q1⟩=>hc pins s1 σ H1 vs us Q I1 r1 q1) he hpl
end
end L2
namespace HT
open PySem PyProof.Rows
section
open PySem.SeqAt
open PySem.AutoSeq1 (wpAny_loadPart')
open PySem.MeetsSeq PySem.MeetsSeq2 PySem.MeetsSeq3
end
section
variable {prog:Program} {w:World} {A:Around} {E:Value->Shared->Prop} {s:Shared}
theorem cat_tup {t b:Addr} {vs ws:List Value} {Q:Value->Shared->Prop} (ht:IsTup s.heap t vs.toArray) (hb:IsTup s.heap b ws.toArray) (hv:vs≠[])
  (h1:ws=[]->Q (.ref t) s) (h2:ws≠[]->Q (.ref s.heap.objs.size) { s with heap:=s.heap.push { cls:=.type "tuple", data:=.seq (vs++ws).toArray } })
  (hsz:vs.length+ws.length<=sizeLine):wpAny (model prog w) A (binaryOp .Add (.ref t) (.ref b)) Q E s:=by
 obtain ⟨⟨cls,dd,data,sl⟩,ho,hc,n,hd⟩:=id ht
 obtain ⟨⟨cls2,dd2,data2,sl2⟩,ho2,hc2,n2,hd2⟩:=id hb
 simp only at hc hd hc2 hd2
 subst hc hd hc2 hd2
 have e:vs.toArray++ws.toArray=(vs++ws).toArray:=by simp
 by_cases hw:ws=[]
 ·exact concat_meets ⟨_,ho,rfl⟩ ⟨_,ho2,rfl⟩ noFill_tuple_add seq_tuple_add PySem.F.slot_tuple_add PySem.F.entry_tuple_add (PySem.F.args_tuple_add_2 _ _)
   (tuple_addW1 t b vs.toArray ws.toArray n n2 dd dd2 sl sl2 (by simpa using hv) (by simp [hw])) ⟨ho,ho2,h1 hw⟩
 ·refine concat_meets ⟨_,ho,rfl⟩ ⟨_,ho2,rfl⟩ noFill_tuple_add seq_tuple_add PySem.F.slot_tuple_add PySem.F.entry_tuple_add (PySem.F.args_tuple_add_2 _ _)
   (tuple_addW2 t b vs.toArray ws.toArray n n2 dd dd2 sl sl2 (by simpa using hv) (by simpa using hw) (by rw [List.size_toArray,List.size_toArray];exact hsz)) ⟨ho,ho2,?_⟩
  rw [e]
  exact h2 hw
def sIx (n d:Nat):Option Int->Nat
 | none=>d
 | some v=>if v < 0 then (v+(n:Int)).toNat else min v.toNat n
end
end HT
namespace L2
open PySem PySem.Spec PyProof.Rows
abbrev TO:=St->Hp->(Option Int->Hp->Prop)->Prop
def PO (X:Cx) (e:Option Expr) (t:TO):Prop:=
 ∀ (pins:List (Addr×Obj)) (s:Shared) (σ:St) (H:Hp) (Q:Option Int->Hp->Prop),Inv X pins σ H s->t σ H Q->
  wpAny (model X.prog X.w) X.A (evalPart e X.env) (fun u s'=>∃ o H',Inv X pins σ H' s'/\IsPart u o/\Q o H') X.xe s
abbrev zEV:TO:=fun _ H Q=>Q none H
abbrev zIA (t:TE):TO:=fun σ H Q=>t σ H fun x H1=>∃ i,x=.int i/\Q (some i) H1
section
variable {X:Cx} {e:Expr} {te:TE} {lo hi:Option Expr} {tl th:TO} {pos p2:Pos}
theorem zEC:PO X none zEV:=by
 intro pins s σ H Q I h
 rw [evalPart_none]
 exact wpAny_pure ⟨none,H,I,.none,h⟩
theorem zFe (h:PE X e te):PO X (some e) (zIA te):=by
 intro pins s σ H Q I hw
 rw [evalPart_some]
 refine thn (h pins s σ H _ I hw) fun u s1 ⟨x,H1,I1,r1,q1⟩=>?_
 obtain ⟨i,rfl,q⟩:=q1
 obtain ⟨t,rfl⟩:=r1
 exact ⟨some i,H1,I1,.int i t,q⟩
def SlR (X:Cx) (r:V->Option Int->Option Int->Hp->VK->Prop):Prop:=
 ∀ (pins:List (Addr×Obj)) (s:Shared) (σ:St) (H:Hp) (x:V) (v vl vu:Value) (lo hi:Option Int) (sl:Addr) (Q:VK),Inv X pins σ H s->cD x v->s.heap.IsSliceOf sl vl vu .none->IsPart vl lo->IsPart vu hi->r x lo hi H Q->
  ∃ T id,typeLookup (.type T) "__getitem__" = pure (some (.builtin id))/\s.TypeIs v T/\wpAny (model X.prog X.w) X.A (getItem v (.ref sl)) (EP X pins σ Q) X.xe s
abbrev tSl (r:V->Option Int->Option Int->Hp->VK->Prop) (te:TE) (tl th:TO):TE:=fun σ H Q=>te σ H fun x H1=>tl σ H1 fun l H2=>th σ H2 fun u H3=>r x l u H3 Q
theorem zCE {r:V->Option Int->Option Int->Hp->VK->Prop} (hr:SlR X r) (he:PE X e te) (hl:PO X lo tl) (hu:PO X hi th):PE X (.Subscript e (.Slice lo hi none p2) pos) (tSl r te tl th):=by
 intro pins s σ H Q I h
 refine Subscript_ (thn (he pins s σ H _ I h) fun v s1 ⟨x,H1,I1,r1,q1⟩=>?_)
 refine wpAny_Slice (thn (hl pins s1 σ H1 _ I1 q1) fun vl s2 ⟨l,H2,I2,pl,q2⟩=>thn (hu pins s2 σ H2 _ I2 q2) fun vu s3 ⟨u,H3,I3,pu,q3⟩=>?_)
 rw [evalPart_none]
 refine wpAny_pure ?_
 have I4:Inv X pins σ H3 { s3 with heap:=s3.heap.push { cls:=.type "slice", data:=.fields #[vl,vu,.none] } }:=I3.kept (t':=s3.toks) fun b ob q=>Heap.get?_push_of_some _ q
 obtain ⟨T,id,hT,ht,hg⟩:=hr pins { s3 with heap:=s3.heap.push { cls:=.type "slice", data:=.fields #[vl,vu,.none] } } σ H3 x v vl vu l u s3.heap.objs.size Q I4 r1 (Heap.IsSliceOf.new ..) pl pu q3
 show wpAny (model X.prog X.w) X.A (subscriptTail e (.Slice lo hi none p2) v (.ref s3.heap.objs.size)) (EP X pins σ Q) X.xe { s3 with heap:=s3.heap.push { cls:=.type "slice", data:=.fields #[vl,vu,.none] } }
 exact tail_any (ops:=[.ref s3.heap.objs.size,v]) ht hT hg (by with_unfolding_all rfl)
def zFG (xs:List V) (lo hi:Option Int):List V:=(xs.drop (HT.sIx xs.length 0 lo)).take (HT.sIx xs.length xs.length hi - HT.sIx xs.length 0 lo)
theorem uH (xs:List V) (lo hi:Option Int):(zFG xs lo hi).length<=xs.length:=by
 unfold zFG
 rw [List.length_take,List.length_drop]
 omega
def zGr (K:PySem.W.Frag):R2:=fun x y H Q=>∃ a b xs ys,x=.ref a/\y=.ref b/\SqT K H a xs/\SqT K H b ys/\xs≠[]/\xs.length+ys.length<=sizeLine/\
 (ys=[]->Q (.ref a) H)/\(ys≠[]->∀ p,H p=none->Q (.ref p) (upd H p (.tup (xs++ys))))
theorem cO.nil_iff {xs:List V} {us:List Value} (r:cO xs us):us=[] ↔ xs=[]:=by
 cases r with
 | nil=>simp
 | cons _ _=>simp
theorem zDJ:OpR X (binaryOp .Add) (zGr X.K):=by
 intro pins s σ H x y v u Q I rx ry h
 obtain ⟨a,b,xs,ys,rfl,rfl,ha,hb,hx,hz,q1,q2⟩:=h
 cases rx
 cases ry
 obtain ⟨its,r1,p1,_⟩:=I.tuple ha
 obtain ⟨its2,r2,p2,_⟩:=I.tuple hb
 refine HT.cat_tup p1 p2 (fun z=>hx (r1.nil_iff.mp z)) (fun z=>⟨.ref a,H,I,rfl,q1 (r2.nil_iff.mp z)⟩) (fun z=>?_) (by rw [<-r1.length,<-r2.length];exact hz)
 refine ⟨.ref s.heap.objs.size,_,I.laid (t':=s.toks) (o:=.tup (xs++ys)) (fun b ob q=>Heap.get?_push_of_some _ q) (Nat.le_refl _) ?_,rfl,q2 (fun w=>z (r2.nil_iff.mpr w)) _ (I.hok.fresh (Nat.le_refl _))⟩
 exact ⟨by rw [List.length_append];exact hz,_,r1.append r2,IsTup.new _ _⟩
end
end L2
namespace L2
open PySem PySem.Spec PyProof.Rows
def ixN (n:Nat) (i:Int):Option Nat:=if 0<=i then (if i < n then some i.toNat else none) else if -(n:Int)<=i then some (i+n).toNat else none
def atI {α:Type} (xs:List α) (i:Int):Option α:=(ixN xs.length i).bind fun j=>xs[j]?
theorem zAP {n:Nat} {i:Int} {j:Nat} (h:ixN n i=some j):seqIndex? i n=some j/\j < n/\-(n:Int)<=i/\i < n:=by
 unfold ixN at h
 by_cases h0:0<=i
 ·rw [if_pos h0] at h
  by_cases h1:i < n
  ·rw [if_pos h1] at h
   have e:i.toNat=j:=Option.some.inj h
   exact ⟨by rw [seqIndex_of h0 h1,e],by omega,by omega,h1⟩
  ·rw [if_neg h1] at h;cases h
 ·rw [if_neg h0] at h
  by_cases h1:-(n:Int)<=i
  ·rw [if_pos h1] at h
   have e:(i+n).toNat=j:=Option.some.inj h
   exact ⟨by rw [seqIndex_neg (by omega) h1,e],by omega,h1,by omega⟩
  ·rw [if_neg h1] at h;cases h
theorem zX {α:Type} {xs:List α} {i:Int} {v:α} (h:atI xs i=some v):∃ j,seqIndex? i xs.length=some j/\xs[j]?=some v/\j < xs.length/\-(xs.length:Int)<=i/\i < xs.length:=by
 unfold atI at h
 cases e:ixN xs.length i with
 | none=>rw [e] at h;cases h
 | some j=>
  rw [e] at h
  obtain ⟨h1,h2,h3,h4⟩:=zAP e
  exact ⟨j,h1,h,h2,h3,h4⟩
theorem uT {α:Type} {xs:List α} {j:Nat} {v:α} (h:xs[j]?=some v):atI xs (j:Int)=some v:=by
 have hj:j < xs.length:=(List.getElem?_eq_some_iff.mp h).1
 have e:ixN xs.length (j:Int)=some j:=by
  unfold ixN
  rw [if_pos (by omega),if_pos (by omega)];simp
 unfold atI;rw [e];exact h
def uI (b:Expr):Prop:=∀ o i,subscripted b false o i=operate [o,i] (getItem o i)
def IxR (X:Cx) (r:R2):Prop:=
 ∀ (value slice:Expr) (pins:List (Addr×Obj)) (s:Shared) (σ:St) (H:Hp) (x y:V) (v u:Value) (Q:VK),Inv X pins σ H s->cD x v->cD y u->r x y H Q->
  subscripted slice false v u=operate [v,u] (getItem v u)->wpAny (model X.prog X.w) X.A (subscriptTail value slice v u) (EP X pins σ Q) X.xe s
def MtR (X:Cx) (id:String) (r:V->List V->Hp->VK->Prop):Prop:=
 ∀ (pins:List (Addr×Obj)) (s:Shared) (σ:St) (H:Hp) (x:V) (xs:List V) (v:Value) (us:List Value) (Q:VK),Inv X pins σ H s->cD x v->cO xs us->r x xs H Q->
  wpAny (model X.prog X.w) X.A (call (.builtin id) (v::us)) (EP X pins σ Q) X.xe s
section
variable {X:Cx} {a b:Expr} {ta tb:TE} {pos:Pos}
theorem IxR.or {r r':R2} (h:IxR X r) (h':IxR X r'):IxR X (fun x y H Q=>r x y H Q∨r' x y H Q):=by
 intro value slice pins s σ H x y v u Q I rx ry q hs
 rcases q with q | q
 ·exact h value slice pins s σ H x y v u Q I rx ry q hs
 ·exact h' value slice pins s σ H x y v u Q I rx ry q hs
theorem xX {r:R2} (hr:IxR X r) (ha:PE X a ta) (hb:PE X b tb) (hs:uI b):PE X (.Subscript a b pos) (tOp r ta tb):=by
 intro pins s σ H Q I h
 exact Subscript_ (zIx ha hb I h fun v u s2 x y H2 I2 rx ry q=>hr a b pins s2 σ H2 x y v u Q I2 rx ry q (hs _ _))
def zHV (K:PySem.W.Frag):R2:=fun x y H Q=>∃ p xs i v,x=.ref p/\y=.int i/\SqL K H p xs/\atI xs i=some v/\Q v H
def zIa (K:PySem.W.Frag):R2:=fun x y H Q=>∃ p xs i v,x=.ref p/\y=.int i/\SqT K H p xs/\atI xs i=some v/\Q v H
theorem zDY:IxR X (zHV X.K):=by
 intro value slice pins s σ H x y v u Q I rx ry h hs
 obtain ⟨p,xs,i,z,rfl,rfl,hq,he,q⟩:=h
 cases rx
 obtain ⟨t,rfl⟩:=ry
 obtain ⟨its,r,pl,hz⟩:=I.list hq
 obtain ⟨j,h1,h2,h3,h4,h5⟩:=zX he
 obtain ⟨w,ew,rw'⟩:=r.get h2
 have hl:=r.length
 have hn:=qA
 have fin:EP X pins σ Q w s:=⟨z,H,I,rw',q⟩
 by_cases h0:0<=i
 ·have hj:i.toNat=j:=by
   rw [seqIndex_of h0 h5] at h1
   exact Option.some.inj h1
  exact item_listR pl.isList h0 (by omega) (by rw [hj];simpa using ew) fin hs
 ·have hj:(i+(its.toArray.size:Int)).toNat=j:=by
   rw [seqIndex_neg (by omega) h4] at h1
   rw [List.size_toArray,<-hl]
   exact Option.some.inj h1
  exact subscriptTail_builtinR (x:=w) pl.isList.typeIs slot_list_getitem.lookup
   (wpAny_getItem_list_neg (Q:=fun r s'=>r=w/\EP X pins σ Q r s') pl.isList (by omega) (by rw [List.size_toArray]<;>omega) (by omega) (by rw [hj];simpa using ew) ⟨rfl,fin⟩) hs
theorem zHj:IxR X (zIa X.K):=by
 intro value slice pins s σ H x y v u Q I rx ry h hs
 obtain ⟨p,xs,i,z,rfl,rfl,hq,he,q⟩:=h
 cases rx
 obtain ⟨t,rfl⟩:=ry
 obtain ⟨its,r,pl,hz⟩:=I.tuple hq
 obtain ⟨j,h1,h2,h3,h4,h5⟩:=zX he
 obtain ⟨w,ew,rw'⟩:=r.get h2
 have hl:=r.length
 have hn:=qA
 have fin:EP X pins σ Q w s:=⟨z,H,I,rw',q⟩
 exact subscriptTail_builtinR (x:=w) pl.typeIs slot_tuple_getitem.lookup
  (getItem_tuple (j:=j) (Q:=fun r s'=>r=w/\EP X pins σ Q r s') pl (by omega) (by omega) (by rw [List.size_toArray,<-hl];exact h1) (by simpa using ew) ⟨rfl,fin⟩) hs
theorem xE (its:List Value) (n j:Nat) (u:Value):Obj.mapSeq (·.setIfInBounds j u) { cls:=.type "list", data:=.seq its.toArray n }={ cls:=.type "list", data:=.seq (its.set j u).toArray n }:=by
 simp [Obj.mapSeq]
theorem Inv.lst {pins:List (Addr×Obj)} {σ:St} {H:Hp} {s:Shared} {p:Addr} {xs:List V} (I:Inv X pins σ H s) (h:H p=some (.lst xs)):
  ∃ (its:List Value) (n:Nat),cO xs its/\s.heap.get? p=some { cls:=.type "list", data:=.seq its.toArray n }/\xs.length<=sizeLine:=by
 obtain ⟨z,its,n,r,e⟩:=I.hok p _ h
 exact ⟨its,n,r,e,z⟩
theorem Inv.lstUpd {pins:List (Addr×Obj)} {σ:St} {H:Hp} {s:Shared} {p:Addr} {xs ys:List V} {its its':List Value} {n n':Nat} {f:Obj->Obj} (I:Inv X pins σ H s) (h:H p=some (.lst xs))
  (ho:s.heap.get? p=some { cls:=.type "list", data:=.seq its.toArray n }) (hf:f { cls:=.type "list", data:=.seq its.toArray n }={ cls:=.type "list", data:=.seq its'.toArray n' }) (r:cO ys its') (hz:ys.length<=sizeLine) (t:Nat):
  Inv X pins σ (upd H p (.lst ys)) { s with heap:=s.heap.update p f,toks:=t }:=by
 have e:(s.heap.update p f).get? p=some { cls:=.type "list", data:=.seq its'.toArray n' }:=by
  rw [Heap.get?_update_self f ho (by rw [hf]<;>rfl),hf]
 refine I.write (x:=p) (e:=p) (by rw [h];trivial) (.inl rfl) (fun b u hb q=>(Heap.get?_update_other _ _ (Ne.symm hb)).trans q) ⟨_,e⟩ ?_
 exact ⟨hz,its',n',r,e⟩
def zIC:V->V->V->Hp->(Hp->Prop)->Prop:=fun o i v H Q=>∃ p xs k j,o=.ref p/\i=.int k/\H p=some (.lst xs)/\ixN xs.length k=some j/\Q (upd H p (.lst (xs.set j v)))
theorem zCP:zJj X zIC:=by
 intro pins s σ H o i v ov iv u Q I ro ri rv h
 obtain ⟨p,xs,k,j,rfl,rfl,hp,hj,q⟩:=h
 cases ro
 obtain ⟨t,rfl⟩:=ri
 obtain ⟨its,n,r,ho,hz⟩:=I.lst hp
 obtain ⟨h1,h2,h3,h4⟩:=zAP hj
 have hl:=r.length
 have hn:=qA
 have I':Inv X pins σ (upd H p (.lst (xs.set j v))) { s with heap:=s.heap.update p (Obj.mapSeq (·.setIfInBounds j u)) }:=
  I.lstUpd hp ho (xE its n j u) (r.set rv j) (by rw [List.length_set];exact hz) s.toks
 by_cases h0:0<=k
 ·have hk:k.toNat=j:=by
   rw [seqIndex_of h0 h4] at h1
   exact Option.some.inj h1
  exact PySem.W.ki_setAt ho h0 (by omega) (by rw [List.size_toArray,<-hl];exact h4) (by rw [hk];exact ⟨_,I',q⟩)
 ·have hk:(k+(its.toArray.size:Int)).toNat=j:=by
   rw [seqIndex_neg (by omega) h3] at h1
   rw [List.size_toArray,<-hl]
   exact Option.some.inj h1
  exact PySem.W.ki_setBack ho (by omega) (by rw [List.size_toArray,<-hl];exact h3) (by omega) (by rw [hk];exact ⟨_,I',q⟩)
theorem tE (lo hi:Option Int) (n:Nat):(sliceBounds lo hi none n).1=((HT.sIx n 0 lo:Nat):Int)/\(sliceBounds lo hi none n).2.1=((HT.sIx n n hi:Nat):Int)/\(sliceBounds lo hi none n).2.2=1:=by
 refine ⟨?_,?_,rfl⟩
 ·cases lo with
  | none=>simp [sliceBounds,HT.sIx]
  | some i=>
   simp only [sliceBounds,HT.sIx,Option.getD_none,show (1:Int) > 0 by decide,if_true]
   by_cases h:i < 0
   ·simp only [h,if_true]<;>omega
   ·simp only [h,if_false]<;>omega
 ·cases hi with
  | none=>simp [sliceBounds,HT.sIx]
  | some i=>
   simp only [sliceBounds,HT.sIx,Option.getD_none,show (1:Int) > 0 by decide,if_true]
   by_cases h:i < 0
   ·simp only [h,if_true]<;>omega
   ·simp only [h,if_false]<;>omega
theorem qJ (its:List Value) (lo hi:Option Int):slicePick its.toArray lo hi none=((its.drop (HT.sIx its.length 0 lo)).take (HT.sIx its.length its.length hi - HT.sIx its.length 0 lo)).toArray:=by
 obtain ⟨h1,h2,h3⟩:=tE lo hi its.toArray.size
 unfold slicePick
 rw [h1,h2,h3]
 simp only [sliceRange_one,pick_run,List.size_toArray]<;>rfl
def zJG (K:PySem.W.Frag):V->Option Int->Option Int->Hp->VK->Prop:=fun x lo hi H Q=>∃ a xs,x=.ref a/\SqL K H a xs/\∀ p,H p=none->Q (.ref p) (upd H p (.lst (zFG xs lo hi)))
theorem zEM:SlR X (zJG X.K):=by
 intro pins s σ H x v vl vu lo hi sl Q I rx hs pl pu h
 obtain ⟨a,xs,rfl,hx,q⟩:=h
 cases rx
 obtain ⟨its,r,ht,hz⟩:=I.list hx
 have hlen:=r.length
 refine ⟨"list", _,slot_list_getitem.lookup,ht.isList.typeIs,?_⟩
 refine wpAny_getItem_list_slice ht.isList hs pl pu .none (by simp) ?_ (by rw [List.size_toArray]<;>omega)
 rw [qJ,<-hlen]
 refine ⟨.ref s.heap.objs.size,_,I.laid (t':=s.toks) (o:=.lst (zFG xs lo hi)) (fun b ob q=>Heap.get?_push_of_some _ q) (Nat.le_refl _) ?_,rfl,q _ (I.hok.fresh (Nat.le_refl _))⟩
 exact ⟨Nat.le_trans (uH xs lo hi) hz,_,0,(r.drop (HT.sIx xs.length 0 lo)).take (HT.sIx xs.length xs.length hi - HT.sIx xs.length 0 lo),Heap.get?_push_size _ rfl⟩
theorem bF:iN X (.builtin "len") (fun xs H Q=>∃ p ys,xs=[.ref p]/\(SqL X.K H p ys∨SqT X.K H p ys)/\Q (.int ys.length) H):=by
 intro pins s σ H xs us Q I r h
 obtain ⟨p,ys,rfl,hq,q⟩:=h
 obtain ⟨u,rfl,rx⟩:=pD r
 cases rx
 have hn:=qA
 rcases hq with hq | hq
 ·obtain ⟨its,r',pl,hz⟩:=I.list hq
  have hlen:=r'.length
  exact Calls.call_len_list pl.isList (by simp only [List.size_toArray]<;>omega) ⟨.int ys.length,H,I.tok _,⟨s.toks+1,by rw [List.size_toArray,hlen]⟩,q⟩
 ·obtain ⟨its,r',pl,hz⟩:=I.tuple hq
  have hlen:=r'.length
  exact len_tuple pl (by simp only [List.size_toArray]<;>omega) ⟨.int ys.length,H,I.tok _,⟨s.toks+1,by rw [List.size_toArray,hlen]⟩,q⟩
theorem sV:iN X (.type "list") (fun xs H Q=>∃ p ys,xs=[.ref p]/\(SqL X.K H p ys∨SqT X.K H p ys)/\∀ l,H l=none->Q (.ref l) (upd H l (.lst ys))):=by
 intro pins s σ H xs us Q I r h
 obtain ⟨p,ys,rfl,hq,q⟩:=h
 obtain ⟨u,rfl,rx⟩:=pD r
 cases rx
 have fin:∀ (its:List Value),cO ys its->ys.length<=sizeLine->∀ (h':Heap) (c':Nat),(∀ b o',s.heap.get? b=some o'->h'.get? b=some o')->
   h'.get? s.heap.objs.size=some { cls:=.type "list", dict:=none,data:=.seq its.toArray c',slots:=#[] }->EP X pins σ Q (.ref s.heap.objs.size) { s with heap:=h' }:=fun its r' hz h' c' kp e=>
  ⟨.ref s.heap.objs.size,_,I.laid (t':=s.toks) kp (Nat.le_refl _) (show gO X.prog X.w _ h' _ (.lst ys) from ⟨hz,its,c',r',e⟩),rfl,q _ (I.hok.fresh (Nat.le_refl _))⟩
 rcases hq with hq | hq
 ·obtain ⟨its,r',pl,hz⟩:=I.list hq
  have hlen:=r'.length
  obtain ⟨o,ho,hc,n,hd⟩:=pl.isList
  exact call_list_seq p (.inl rfl) ho hc hd (fun h' c' kp e=>fin its r' hz h' c' kp e) (by simp only [List.size_toArray]<;>omega)
 ·obtain ⟨its,r',pl,hz⟩:=I.tuple hq
  have hlen:=r'.length
  obtain ⟨o,ho,hc,n,hd⟩:=pl
  exact call_list_seq p (.inr rfl) ho hc hd (fun h' c' kp e=>fin its r' hz h' c' kp e) (by simp only [List.size_toArray]<;>omega)
theorem rJ:iN X (.type "tuple") (fun xs H Q=>∃ p ys,xs=[.ref p]/\((SqL X.K H p ys/\∀ l,H l=none->Q (.ref l) (upd H l (.tup ys)))∨(SqT X.K H p ys/\Q (.ref p) H))):=by
 intro pins s σ H xs us Q I r h
 obtain ⟨p,ys,rfl,h⟩:=h
 obtain ⟨u,rfl,rx⟩:=pD r
 cases rx
 rcases h with ⟨hq,q⟩ | ⟨hq,q⟩
 ·obtain ⟨its,r',pl,hz⟩:=I.list hq
  have hlen:=r'.length
  refine call_tuple_list pl.isList (fun h' kp=>?_) (by simp only [List.size_toArray]<;>omega)
  have I1:Inv X pins σ H { s with heap:=h' }:=I.kept (t':=s.toks) kp
  have I2:Inv X pins σ (upd H h'.objs.size (.tup ys)) { s with heap:=h'.push { cls:=.type "tuple", data:=.seq its.toArray } }:=
   I1.laid (t':=s.toks) (fun b o e=>Heap.get?_push_of_some _ e) (Nat.le_refl _) (show gO X.prog X.w _ _ _ (.tup ys) from ⟨hz,its,r',IsTup.new _ _⟩)
  exact ⟨.ref h'.objs.size,_,I2,rfl,q _ (I1.hok.fresh (Nat.le_refl _))⟩
 ·obtain ⟨its,r',pl,hz⟩:=I.tuple hq
  exact call_tuple_same pl ⟨.ref p,H,I,rfl,q⟩
def tyV (K:PySem.W.Frag) (T:String) (x:V) (H:Hp):Prop:=match x with
 | .str _=>T = "str"
 | .int _=>T = "int"
 | .ref p=>(T = "list" /\ ∃ xs,SqL K H p xs)∨(T = "tuple" /\ ∃ o,K.lookup p=some o/\o.cls=.type "tuple" /\ o.dict=none)∨
   (T = "dict" /\ ((∃ kvs,H p=some (.dK kvs))∨∃ kvs,H p=some (.dT kvs)))∨(T = "set" /\ ∃ S n,H p=some (.set S n))
 | _=>False
theorem zHE {pins:List (Addr×Obj)} {σ:St} {H:Hp} {s:Shared} {T:String} {x:V} {v:Value} (I:Inv X pins σ H s) (r:cD x v) (ty:tyV X.K T x H):
  s.TypeIs v T/\∀ a,v=.ref a->∃ ob,s.heap.get? a=some ob/\ob.dict=none:=by
 cases x with
 | str z=>
  obtain ⟨t,rfl⟩:=r
  cases (show T = "str" from ty)
  exact ⟨typeIs_str s z t,fun _ e=>nomatch e⟩
 | int i=>
  obtain ⟨t,rfl⟩:=r
  cases (show T = "int" from ty)
  exact ⟨typeIs_int s i t,fun _ e=>nomatch e⟩
 | ref p=>
  cases r
  rcases ty with ⟨rfl,xs,hq⟩ | ⟨rfl,o,hk,hc,hd⟩ | ⟨rfl,hk⟩ | ⟨rfl,S,n,hk⟩
  ·obtain ⟨its,_,pl,_⟩:=I.list hq
   refine ⟨pl.isList.typeIs,fun a e=>?_⟩
   cases e
   obtain ⟨o,n,e,c,hd,_⟩:=pl
   exact ⟨o,e,hd⟩
  ·refine ⟨⟨o,I.kIn p o hk,hc⟩,fun a e=>?_⟩
   cases e
   exact ⟨o,I.kIn _ o hk,hd⟩
  ·have z:∃ o,s.heap.get? p=some o/\o.ExactDict:=by
    rcases hk with ⟨kvs,hk⟩ | ⟨kvs,hk⟩
    ·obtain ⟨_,_,_,_,o,_,_,e,ex,_⟩:=I.hok p _ hk
     exact ⟨o,e,ex⟩
    ·obtain ⟨_,_,_,_,o,_,_,e,ex,_⟩:=I.hok p _ hk
     exact ⟨o,e,ex⟩
   obtain ⟨o,e,ex⟩:=z
   refine ⟨⟨o,e,ex.1⟩,fun a e2=>?_⟩
   cases e2
   exact ⟨o,e,ex.2.1⟩
  ·obtain ⟨o,_,_,_,e,ex,_⟩:=I.hok p _ hk
   refine ⟨⟨o,e,ex.1⟩,fun a e2=>?_⟩
   cases e2
   exact ⟨o,e,ex.2.1⟩
 | _=>exact False.elim ty
abbrev tBM (K:PySem.W.Frag) (T:String) (r:V->List V->Hp->VK->Prop) (to:TE) (t:TA):TE:=fun σ H Q=>to σ H fun x H1=>tyV K T x H1/\t σ H1 fun xs H2=>r x xs H2 Q
variable {o e:Expr} {es:List Expr} {to:TE} {t:TA} {name:Str} {apos cpos:Pos} {T id:String} {r:V->List V->Hp->VK->Prop}
theorem zCL (pa:PlainAttrs T) (slot:Slot T name id) (hty:typeOf (.builtin id)=pure (.type "method_descriptor")) (hm:MtR X id r) (ho:PE X o to) (ha:PA X (e::es) t)
  (hbase:attributeBase o name X.env (eval o X.env)=eval o X.env:=by rfl)
  (hfew:((backTo cpos (starEach (e::es) X.env)).all (fun x=>!x.1) && (backToKw cpos (keywordEach [] X.env)).all (fun x=>x.1.isSome)
   && decide ((e::es).length+([]:List Keyword).length+(if ([]:List Keyword).isEmpty then 0 else 1) < 30))=true:=by rfl)
  (hline:(apos.endLine==cpos.line)=true:=by rfl) (hs:starEach (e::es) X.env=(false,eval e X.env)::starEach es X.env:=by rfl) (hplain:(backTo cpos (starEach es X.env)).any (·.1)=false:=by rfl):
  PE X (.Call (.Attribute o name apos) (e::es) [] cpos) (tBM X.K T r to t):=by
 intro pins s σ H Q I h
 refine wpAny_Call_method_late hbase hfew hline rfl (thn (ho pins s σ H _ I h) fun v s1 ⟨x,H1,I1,r1,ty,q1⟩=>?_)
 obtain ⟨h1,h2⟩:=zHE I1 r1 ty
 refine ⟨T,id,pa,slot,hty,h1,h2,?_⟩
 have hA:=ha cpos pins s1 σ H1 _ I1 q1
 rw [hs] at hA ⊢
 refine Calls.callWith_builtin (by show (false || (backTo cpos (starEach es X.env)).any (·.1))=false;rw [hplain]<;>rfl) (Calls.evalArgs_plain ?_)
 exact thn hA fun us s2 ⟨vs,H2,I2,r2,q2⟩=>hm pins s2 σ H2 x vs v us Q I2 r1 r2 q2
end
end L2
namespace L2
open PySem PySem.Spec PyProof.Rows
def MtM (X:Cx) (id:String) (r:V->List V->Hp->VK->Prop):Prop:=
 ∀ (pins:List (Addr×Obj)) (s:Shared) (σ:St) (H:Hp) (x:V) (xs:List V) (v:Value) (us:List Value) (Q:VK),Inv X pins σ H s->cD x v->cO xs us->r x xs H Q->
  wpAny (model X.prog X.w) X.A (call (.builtin id) (v::us)) (EP X pins σ Q) X.xe s
theorem cO.one:∀ {x:V} {us:List Value},cO [x] us->∃ u,us=[u]/\cD x u
 | _,_,.cons r .nil=>⟨_,rfl,r⟩
theorem cO.rep {xs:List V} {us:List Value} (h:cO xs us):∀ k:Nat,cO (List.replicate k xs).flatten (List.replicate k us).flatten
 | 0=>.nil
 | k+1=>by
  rw [List.replicate_succ,List.replicate_succ,List.flatten_cons,List.flatten_cons]
  exact cO.append h (cO.rep h k)
theorem rS (its:List Value):∀ (k:Nat) (acc:List Value),
  List.foldl (fun x1 x2=>x1++x2) acc.toArray (List.replicate k its.toArray)=(acc++(List.replicate k its).flatten).toArray
 | 0,acc=>by simp
 | k+1,acc=>by
  have e:acc.toArray++its.toArray=(acc++its).toArray:=by simp
  have e2:(acc++its)++(List.replicate k its).flatten=acc++(List.replicate (k+1) its).flatten:=by
   rw [List.replicate_succ,List.flatten_cons,List.append_assoc]
  rw [<-e2,<-rS its k (acc++its),<-e,List.replicate_succ,List.foldl_cons]
section
variable {X:Cx} {pins:List (Addr×Obj)} {σ:St} {H:Hp} {s:Shared} {l b:Addr} {xs ys zs:List V}
theorem Inv.lset {its its':List Value} {n:Nat} {f:Array Value->Array Value} {t':Nat} (I:Inv X pins σ H s) (hH:H l=some (.lst xs))
  (e:s.heap.get? l=some { cls:=.type "list", data:=.seq its.toArray n }) (hf:f its.toArray=its'.toArray) (hv:cO ys its') (hz:ys.length<=sizeLine):
  Inv X pins σ (upd H l (.lst ys)) { s with heap:=s.heap.update l (Obj.mapSeq f),toks:=t' }:=by
 have q:=PySem.IsL.update e f
 rw [hf] at q
 refine I.write (x:=l) (e:=l) (by rw [hH];exact trivial) (.inl rfl) (fun b' u hb hu=>(Heap.get?_update_other s.heap (Obj.mapSeq f) (Ne.symm hb)).trans hu) ⟨_,q⟩ ?_
 exact ⟨hz,its',_,hv,q⟩
theorem Inv.lnew {its:List Value} {t':Nat} (I:Inv X pins σ H s) (hv:cO ys its) (hz:ys.length<=sizeLine):
  Inv X pins σ (upd H s.heap.objs.size (.lst ys)) { s with heap:=s.heap.push { cls:=.type "list", data:=.seq its.toArray },toks:=t' }:=
 I.laid (fun _ _ q=>Heap.get?_push_of_some _ q) (Nat.le_refl _) ⟨hz,its,0,hv,Heap.get?_push_size _ rfl⟩
theorem Inv.fresh (I:Inv X pins σ H s):H s.heap.objs.size=none:=I.hok.fresh (Nat.le_refl _)
theorem Inv.lstM (I:Inv X pins σ H s) (hH:H l=some (.lst xs)):xs.length<=sizeLine/\∃ (its:List Value) (n:Nat),cO xs its/\xs.length=its.length/\s.heap.get? l=some { cls:=.type "list", data:=.seq its.toArray n }:=by
 obtain ⟨z,its,n,r,e⟩:=I.hok l _ hH
 exact ⟨z,its,n,r,r.length,e⟩
theorem zCb {n:Nat} (h:n<=sizeLine):Builtin.List.listTooLong n=false:=by
 unfold Builtin.List.listTooLong
 exact decide_eq_false (by omega)
end
section
variable {X:Cx}
def zDI:V->List V->Hp->VK->Prop:=fun x vs H Q=>∃ l xs y,x=.ref l/\vs=[y]/\H l=some (.lst xs)/\xs.length < sizeLine/\Q .non (upd H l (.lst (xs++[y])))
theorem jL:MtM X "list.append" zDI:=by
 intro pins s σ H x vs v us Q I rx rv h
 obtain ⟨l,xs,y,rfl,rfl,hH,hz,q⟩:=h
 cases rx
 obtain ⟨u,rfl,ru⟩:=rv.one
 obtain ⟨z,its,n,r,hl,e⟩:=I.lstM hH
 refine call_meets F.slot_list_append ⟨_,e,rfl⟩ F.entry_list_append (F.args_list_append_2 _ _) (PySem.list_append l its.toArray n u (by rw [List.size_toArray];omega)) ⟨e,?_⟩
 refine ⟨.non,_,I.lset (its':=its++[u]) hH e (by simp) (r.append (.cons ru .nil)) ?_,rfl,q⟩
 rw [List.length_append,List.length_singleton]
 omega
def zJN:R2:=fun x y H Q=>∃ l k xs,x=.ref l/\y=.int k/\H l=some (.lst xs)/\-(2^63)<=k/\k < 2^63/\xs.length * k.toNat<=sizeLine/\
 ∀ p,H p=none->Q (.ref p) (upd H p (.lst (List.replicate k.toNat xs).flatten))
theorem zFr {α:Type} (xs:List α) (k:Nat):(List.replicate k xs).flatten.length=k * xs.length:=by
 induction k with
 | zero=>simp
 | succ k ih=>rw [List.replicate_succ,List.flatten_cons,List.length_append,ih,Nat.succ_mul,Nat.add_comm]
theorem zGj:OpR X (binaryOp .Mult) zJN:=by
 intro pins s σ H x y v u Q I rx ry h
 obtain ⟨l,k,xs,rfl,rfl,hH,h1,h2,hz,q⟩:=h
 cases rx
 obtain ⟨t,rfl⟩:=ry
 obtain ⟨z,its,n,r,hl,e⟩:=I.lstM hH
 have hlen:its.toArray.size * k.toNat<=sizeLine:=by rw [List.size_toArray,<-hl];exact hz
 have hcap:¬ its.toArray.size * k.toNat > (2^63 - 1) / 8:=by
  have:(sizeLine:Nat)<=(2^63 - 1) / 8:=by decide
  omega
 have hfit:¬ (!Builtin.List.listFitsIndex k)=true:=by
  rw [fitsIndex_both h1 h2]
  exact Bool.false_ne_true
 have hlong:¬ Builtin.List.listTooLong (its.toArray.size * k.toNat)=true:=by
  rw [zCb hlen]
  exact Bool.false_ne_true
 have hnew:List.foldl (fun x1 x2=>x1++x2) #[] (List.replicate (if its.toArray.isEmpty=true then 0 else k.toNat) its.toArray)=(List.replicate k.toNat its).flatten.toArray:=by
  have f0:∀ m:Nat,List.foldl (fun x1 x2=>x1++x2) #[] (List.replicate m its.toArray)=(List.replicate m its).flatten.toArray:=fun m=>by
   have:=rS its m []
   rw [List.nil_append] at this
   exact this
  rw [f0]
  cases its with
  | nil=>simp
  | cons a r'=>rw [if_neg (by simp)]
 refine wpAny_binaryOp_repeat_ref (T := "list") (U := "int") (by decide) ⟨_,e,rfl⟩ (fun s'=>typeIs_int s' k t) noFill_list_mul F.fills_int_mul F.slot_int_rmul repeat_list F.slot_int_index.lookup
  (call_meets F.slot_int_rmul (typeIs_int s k t) F.entry_int_rmul (F.args_int_rmul_2 _ _) (int___rmul___int_list k t l its.toArray n)
   ⟨e,rfl,⟨_,e,rfl⟩,call_meets F.slot_list_mul ⟨_,e,rfl⟩ F.entry_list_mul (F.args_list_mul_2 _ _) (AutoListH.list___mul___list_int_3 l its.toArray n k t hfit hcap hlong) ⟨e,?_⟩⟩)
 rw [hnew]
 exact ⟨.ref _,_,I.lnew (t':=s.toks) (r.rep k.toNat) (by rw [zFr,Nat.mul_comm];exact hz),rfl,q _ I.fresh⟩
end
section
variable {prog:Program} {w:World} {A:Around} {E:Value->Shared->Prop} {s:Shared}
set_option maxRecDepth 100000 in
end
section
variable {X:Cx}
end
end L2
namespace Att
open PySem PySem.W PySem.Calls PyProof.Rows
theorem oB {P:Params} {h:Heap}:∀ (ns:List Int) (vs:List Value),WellAll P h vs (ns.map WData.int)->IntsAre vs ns:=by
 intro ns
 induction ns with
 | nil=>
  intro vs w
  rw [List.map_nil] at w
  cases w
  exact .nil
 | cons n ns ih=>
  intro vs w
  rw [List.map_cons] at w
  cases w with
  | cons a b=>
   cases a
   exact .cons _ _ (ih _ b)
theorem script_of {l:OpenLaw} {n:Nat} (hn:l.most=some n) {P:Params} {h:Heap} {args:List WData} {vals:List Value}
  (hpre:l.row.toRowW.claim.pre args=true) (hwl:WellAll P h vals args):
  ∃ a vs ns,vals=[Value.ref a]/\args=[WData.list (ns.map WData.int)]/\h.get? a=some { cls:=.type "list", data:=.seq vs.toArray }/\IntsAre vs ns/\ns.length<=n:=by
 have hsh:WShape.hasAll [] args [.list .int]=true:=(pre_splitW hpre).1
 have hc:l.pre.holds [] { args:=args }=true:=(pre_splitW hpre).2
 obtain ⟨d,r,rfl,h1,h2⟩:=hasAllW_cons hsh
 obtain rfl:=hasAllW_nil h2
 obtain ⟨xs,rfl,h3⟩:=hasW_list h1
 obtain ⟨ns,rfl⟩:=items_int h3
 have hlen:ns.length<=n:=by
  unfold OpenLaw.pre at hc
  have h4:(WTm.not (.lt (.lit (.int (n:Int))) (.len (.arg 0)))).holds [] { args:=[.list (ns.map .int)] }=true:=by
   have h4:=(holds_andW hc).1
   rw [hn] at h4
   exact h4
  have h5:=condW_of h4 (w_not (w_lt w_lit (w_len_list (w_arg rfl))))
  rw [List.length_map] at h5
  refine Nat.le_of_not_lt fun q=>?_
  have q':(n:Int) < ((ns.length:Nat):Int):=by omega
  first
   | (rw [decide_eq_true q'] at h5;exact absurd h5 (by decide))
   | (simp at h5;omega)
 cases hwl with
 | cons w1 w2=>
  cases w2
  cases w1 with
  | list ho hall=>exact ⟨_,_,ns,rfl,rfl,ho,oB ns _ hall,hlen⟩
theorem post_true (l:OpenLaw) (args:List WData):l.row.toRowW.claim.post args (.bool true) args=true:=
 postW_of (r:=l.row.toRowW) (X:=(true==true))
  (show WShape.has [] (.bool true) .bool=true by first | rfl | decide | simp [WShape.has,WShape.arms,WShape.armsAll])
  (show (WTm.eq .res (.lit (.bool true))).value [] { args:=args,res:=some (.bool true),after:=args }=some (.bool (true==true)) from w_eq_bool (w_res rfl) w_lit) rfl
section
variable {prog:Program} {w:World} {A:Around} {E:Value->Shared->Prop} {s:Shared} {K:Frag}
end
end Att
namespace L2
open PySem PySem.Spec PyProof.Rows
theorem sF:∀ {vs:List Value} {ns:List Int},IntsAre vs ns->cO (ns.map V.int) vs
 | _,_,.nil=>.nil
 | _,_,.cons n t h=>.cons ⟨t,rfl⟩ (sF h)
def zJq (H:Hp):Prop:=∀ b,H b=none∨∃ o xs,H b=some (.frz o (.lst xs))
end L2
namespace L2
open PySem PySem.Spec PyProof.Rows
end L2
namespace L2
open PySem PySem.Spec PyProof.Rows
def fM (s:Stmt):Arguments:=match s with
 | .FunctionDef _ a _ _ _ _ _ _ _ _=>a
 | _=>{ posonlyargs:=[],args:=[],vararg:=none,kwonlyargs:=[],kw_defaults:=[],kwarg:=none,defaults:=[] }
def dD (s:Stmt):List Stmt:=match s with
 | .FunctionDef _ _ b _ _ _ _ _ _ _=>b
 | _=>[]
def aD (s:Stmt):Scope:=match s with
 | .FunctionDef _ _ _ _ _ _ sc _ _ _=>sc
 | _=>{ kind:=.function,names:=[],isGenerator:=false,isCoroutine:=false }
structure Fun (K:PySem.W.Frag) (x qual:Str) (st:Stmt) (f:Addr) (fd:FuncData):Prop where
 ex:∃ (oc:Value) (od:Option Addr) (kV doc pm:Value) (an:Option Addr) (cdv ct:Value) (osl:Array (Option Value)),
  fd=PySem.W.fnOf x qual (fM st) (dD st) (aD st) .none kV doc pm an cdv ct/\K.lookup f=some ⟨oc,od,.func fd,osl⟩/\PySem.W.codeIn K cdv qual=true
 kp:PySem.W.keepIn K (.ref f)=true
section
variable {P:Program} {w:World} {K:PySem.W.Frag} {mg:Str->Option Value} {base:Heap}
theorem Fun.binds {x qual:Str} {st:Stmt} {f:Addr} {fd:FuncData} {ps:List Str} (F:Fun K x qual st f fd)
  (h:∀ (kV doc pm:Value) (an:Option Addr) (cdv ct:Value) (us:List Value),us.length=ps.length->bindArgs (PySem.W.fnOf x qual (fM st) (dD st) (aD st) .none kV doc pm an cdv ct) ⟨us,[]⟩=pure (ps.zip us)):sO K fd ps []:=by
 obtain ⟨oc,od,kV,doc,pm,an,cdv,ct,osl,rfl,lk,hcd⟩:=F.ex
 exact .all (h kV doc pm an cdv ct)
theorem pM {x qual:Str} {st:Stmt} {f:Addr} {oc:Value} {od an:Option Addr} {osl:Array (Option Value)} {kV doc pm cdv ct:Value} (l:K.lookup f=some ⟨oc,od,.func (PySem.W.fnOf x qual (fM st) (dD st) (aD st) .none kV doc pm an cdv ct),osl⟩)
  (c:PySem.W.codeIn K cdv qual=true) (k:PySem.W.keepIn K (.ref f)=true):Fun K x qual st f (PySem.W.fnOf x qual (fM st) (dD st) (aD st) .none kV doc pm an cdv ct):=⟨⟨oc,od,kV,doc,pm,an,cdv,ct,osl,rfl,l,c⟩,k⟩
end
section
variable {X:Cx}
theorem pv (i:Nat) {x:Str} {pos:Pos} (hN:X.N[i]?=some x:=by rfl) (hv:Vis X.env.scope x:=by first | exact Or.inl rfl | exact Or.inr (Or.inl rfl) | exact Or.inr (Or.inr rfl)) (hd:(x==("__debug__" : Str))=false:=by decide)
  (hcd:(x==("__classdict__" : Str))=false:=by decide):PE X (.Name x pos) (uY i):=nQ hN hv hd hcd
end
def Same (H H':Hp):Prop:=∀ b o,H b=some o->H' b=some o
theorem Same.refl (H:Hp):Same H H:=fun _ _ h=>h
theorem Same.trans {H H1 H2:Hp} (a:Same H H1) (b:Same H1 H2):Same H H2:=fun c o h=>b c o (a c o h)
end L2
set_option maxHeartbeats 4000000
set_option exponentiation.threshold 20000
namespace L2
open PySem PySem.Spec PyProof.Rows
section
variable {X:Cx}
variable {tg:Expr}
end
end L2
namespace L2
open PySem PySem.Spec PyProof.Rows
end L2
namespace L2
open PySem PySem.Spec PyProof.Rows
def Ex2 (h:Heap) (e:Addr):Prop:=∃ o vs,h.get? e=some o/\o.data=.fields vs/\vs[2]?=some .none
def P2 (f:Obj->Obj):Prop:=∀ o vs,o.data=.fields vs->vs[2]?=some .none->(f o).isFreed=o.isFreed/\∃ ws,(f o).data=.fields ws/\ws[2]?=some .none
def Pr {α:Type}:Sem α->Prop
 | .pure _=>True
 | .raise _=>True
 | .unsupported _=>True
 | .finish _=>True
 | .rule _ k=>Pr (k ())
 | .at _ k=>Pr (k ())
 | .load _ _ k=>∀ o,Pr (k o)
 | .update _ _ f k=>P2 f/\Pr (k ())
 | .loadIfAlive _ k=>∀ o,Pr (k o)
 | .point _ k=>Pr (k ())
 | .alloc _ k=>∀ a,Pr (k a)
 | .fresh k=>∀ a,Pr (k a)
 | .ask k=>∀ a,Pr (k a)
 | .choose _ _ k=>∀ a,Pr (k a)
 | .handled _ k=>∀ a,Pr (k a)
 | .stack k=>∀ a,Pr (k a)
 | .thread k=>∀ a,Pr (k a)
 | _=>False
theorem zIP {α:Type} {M:Model} {Γ:PySem.Ctx} {e:Addr} {Q:α->Pos->Shared->Prop} {E:Value->Pos->Shared->Prop}:∀ (t:Sem α) (p:Pos) (s:Shared),Pr t->Ex2 s.heap e->Sem.wp M Γ t Q E p s->Sem.wp M Γ t (fun a p' s'=>Q a p' s'/\Ex2 s'.heap e) E p s:=by
 intro t
 induction t with
 | pure a=>intro p s _ x h;exact ⟨h,x⟩
 | raise a=>intro p s _ x h;exact h
 | unsupported a=>intro p s _ x h;exact h
 | finish a=>intro p s _ x h;exact h
 | rule a k ih=>intro p s h1 x h;exact ih () p s h1 x h
 | «at» a k ih=>intro p s h1 x h;exact ih () a s h1 x h
 | load a b k ih=>intro p s h1 x h;obtain ⟨o,e1,h⟩:=h;exact ⟨o,e1,ih o p s (h1 o) x h⟩
 | update a b f k ih=>
  intro p s h1 x h
  refine ⟨h.1,ih () p _ h1.2 ?_ h.2⟩
  obtain ⟨o,vs,g1,g2,g3⟩:=x
  by_cases z:a=e
  ·subst z
   obtain ⟨fr,ws,w1,w2⟩:=h1.1 o vs g2 g3
   exact ⟨f o,ws,Heap.get?_update_self _ g1 (Obj.isFreed_of_fields w1),w1,w2⟩
  ·exact ⟨o,vs,(Heap.get?_update_other _ _ z).trans g1,g2,g3⟩
 | alloc o k ih=>
  intro p s h1 x h
  refine ih _ p _ (h1 _) ?_ h
  obtain ⟨o',vs,g1,g2,g3⟩:=x
  exact ⟨o',vs,Heap.get?_push_of_some _ g1,g2,g3⟩
 | loadIfAlive a k ih=>intro p s h1 x h;exact ih _ p s (h1 _) x h
 | point a k ih=>intro p s h1 x h;exact ih () p s h1 x h
 | fresh k ih=>intro p s h1 x h;exact ih _ p _ (h1 _) x h
 | ask k ih=>intro p s h1 x h;exact ih _ p _ (h1 _) x h
 | choose a b k ih=>intro p s h1 x h;exact ⟨h.1,ih _ p _ (h1 _) x h.2⟩
 | handled a k ih=>intro p s h1 x h;exact ih _ p _ (h1 _) x h
 | stack k ih=>intro p s h1 x h;exact ih _ p _ (h1 _) x h
 | thread k ih=>intro p s h1 x h;exact ih _ p _ (h1 _) x h
 | _=>intro p s h1;exact h1.elim
theorem kM {α:Type} {M:Model} {A:Around} {t:Sem α} {e:Addr} {Q:α->Shared->Prop} {E:Value->Shared->Prop} {s:Shared} (h1:Pr t) (x:Ex2 s.heap e) (h:wpAny M A t Q E s):wpAny M A t (fun a s'=>Q a s'/\Ex2 s'.heap e) E s:=fun Γ p hΓ=>zIP t p s h1 x (h Γ p hΓ)
theorem Pr.bind {α β:Type} {f:α->Sem β} (hf:∀ a,Pr (f a)):∀ {t:Sem α},Pr t->Pr (t >>= f):=by
 intro t
 induction t with
 | pure a=>intro _;exact hf a
 | raise a=>intro _;trivial
 | unsupported a=>intro _;trivial
 | finish a=>intro _;trivial
 | rule a k ih=>intro h;exact ih () h
 | «at» a k ih=>intro h;exact ih () h
 | load a b k ih=>intro h o;exact ih o (h o)
 | update a b g k ih=>intro h;exact ⟨h.1,ih () h.2⟩
 | alloc o k ih=>intro h a;exact ih a (h a)
 | loadIfAlive a k ih=>intro h o;exact ih o (h o)
 | point a k ih=>intro h;exact ih () h
 | fresh k ih=>intro h o;exact ih o (h o)
 | ask k ih=>intro h o;exact ih o (h o)
 | choose a b k ih=>intro h o;exact ih o (h o)
 | handled a k ih=>intro h o;exact ih o (h o)
 | stack k ih=>intro h o;exact ih o (h o)
 | thread k ih=>intro h o;exact ih o (h o)
 | _=>intro h;exact h.elim
theorem Pr.map {α β:Type} {t:Sem α} {g:α->β} (h:Pr t):Pr (t >>= fun x=>pure (g x)):=Pr.bind (f:=fun x=>pure (g x)) (fun _=>True.intro) h
theorem Pr.stk:Pr PySem.stack:=fun _=>True.intro
theorem Pr.fieldsOf (v:Value):Pr (PySem.fieldsOf v):=by
 unfold PySem.fieldsOf
 cases v<;>first | exact True.intro | (refine Pr.bind (fun o=>?_) (t:=PySem.load _) (fun o=>True.intro);cases o.data<;>exact True.intro)
theorem Pr.field (v:Value) (i:Nat):Pr (PySem.field v i):=by
 unfold PySem.field
 refine Pr.bind (fun vs=>?_) (Pr.fieldsOf v)
 split<;>exact True.intro
theorem P2.set {i:Nat} {v:Value} (hi:i≠2):P2 (Obj.mapFields (·.setIfInBounds i v)):=by
 intro o vs e e2
 have q:(Obj.mapFields (·.setIfInBounds i v) o).data=.fields (vs.setIfInBounds i v):=by
  obtain ⟨c,d,dd,sl⟩:=o
  cases e
  rfl
 refine ⟨?_,_,q,by rw [Array.getElem?_setIfInBounds_ne hi];exact e2⟩
 rw [Obj.isFreed_of_fields q,Obj.isFreed_of_fields e]
theorem Pr.updateField {a:Addr} {i:Nat} {v:Value} (hi:i≠2):Pr (PySem.updateField a i v):=by
 unfold PySem.updateField
 refine Pr.bind (fun o=>?_) (t:=PySem.load _) (fun o=>True.intro)
 split
 ·split
  ·exact ⟨P2.set hi,True.intro⟩
  ·exact True.intro
 ·exact True.intro
theorem Pr.setField {w:Value} {i:Nat} {v:Value} (hi:i≠2):Pr (PySem.setField w i v):=by
 unfold PySem.setField
 cases w<;>first | exact True.intro | exact Pr.updateField hi
theorem Pr.newFields (ty:String) (vs:List Value):Pr (PySem.newFields ty vs):=by
 unfold PySem.newFields PySem.newObj
 dsimp only
 have k:Pr (PySem.newObjAsIs (.type ty) (.fields vs.toArray)):=by
  unfold PySem.newObjAsIs
  exact fun a=>True.intro
 split
 ·exact True.intro
 ·exact k
theorem Pr.newEntry {a b c d e:Value} {l:List Value}:Pr (EntryCells.newEntry a b c d e l):=Pr.newFields _ _
theorem Pr.setFlight (e:Value) (f:Option Addr):Pr (PySem.setFlight e f):=by
 unfold PySem.setFlight
 refine Pr.bind (fun tb=>?_) (Pr.field e 1)
 split
 ·exact Pr.setField (by decide)
 ·exact True.intro
theorem Pr.entryPlaceOf (f:Addr) (b:Bool):Pr (PySem.entryPlaceOf f b):=by
 unfold PySem.entryPlaceOf
 refine Pr.bind (fun acts=>?_) (t:=PySem.stack) (fun o=>True.intro)
 split<;>exact True.intro
theorem Pr.behindIsImport (env:Env) (o:List Env):Pr (PySem.behindIsImport env o):=by
 unfold PySem.behindIsImport
 split
 ·exact True.intro
 ·split
  ·exact True.intro
  ·exact Pr.map (Pr.field _ _)
theorem Pr.keptBack (env:Env) (b:Bool):∀ l,Pr (PySem.keptBack env b l)
 | []=>by
  unfold PySem.keptBack
  by_cases h:(env.scope.isGenerator || env.scope.isCoroutine)=true
  ·rw [if_pos h];exact True.intro
  ·rw [if_neg h]
   have q:Pr PySem.underTheClaimsCaller:=by unfold PySem.underTheClaimsCaller;exact Pr.map Pr.stk
   exact Pr.map q
 | _::_=>by unfold PySem.keptBack;exact True.intro
theorem Pr.readyFrames:∀ l,Pr (PySem.readyFrames l)
 | []=>by unfold PySem.readyFrames;exact True.intro
 | env::outer=>by
  unfold PySem.readyFrames
  cases env.frame with
  | none=>exact True.intro
  | some f=>
   refine Pr.bind (t:=PySem.load f) (fun o=>?_) fun _=>True.intro
   split
   ·exact True.intro
   ·refine Pr.bind (fun i=>Pr.bind (fun bk=>Pr.bind (t:=PySem.update f _) (fun _=>Pr.readyFrames outer) ⟨?_,True.intro⟩) (Pr.keptBack _ _ _)) (Pr.behindIsImport _ _)
    intro o vs e e2
    refine ⟨?_,vs,e,e2⟩
    rw [Obj.isFreed_of_fields e]
    exact Obj.isFreed_of_fields e
theorem Pr.frameOf (env:Env):Pr (PySem.frameOf env):=by
 unfold PySem.frameOf
 refine Pr.bind (fun l=>Pr.bind (fun o=>?_) ?_) (t:=PySem.frameEnvs) (by unfold PySem.frameEnvs;exact Pr.map Pr.stk)
 ·cases o<;>exact True.intro
 ·cases List.dropWhile (fun x=>x.frame != env.frame) l with
  | nil=>unfold PySem.frameObject;exact True.intro
  | cons a b=>unfold PySem.frameObject;exact Pr.map (Pr.readyFrames _)
theorem Pr.noteFrame (e:Value) (env:Env):Pr (PySem.noteFrame e env):=by
 unfold PySem.noteFrame
 cases env.frame with
 | none=>exact True.intro
 | some f=>
  have r:∀ head:Value,Pr (do PySem.setField e 1 (<-EntryCells.newEntry head (<-PySem.frameOf env) .none (rawInt f) .none (<-PySem.entryPlaceOf f (head != .none)))):=fun head=>
   Pr.bind (fun a=>Pr.bind (fun pl=>Pr.bind (fun b=>Pr.setField (by decide)) Pr.newEntry) (Pr.entryPlaceOf _ _)) (Pr.frameOf env)
  refine Pr.bind (fun head=>?_) (Pr.field e 1)
  dsimp only
  split
  ·refine Pr.bind (fun x=>?_) (Pr.field head 3)
   split
   ·exact True.intro
   ·exact Pr.bind (fun _=>r head) (Pr.setField (by decide))
  ·exact r head
theorem Pr.leaving (env:Env) (e:Value):Pr (PySem.leaving env e):=by
 unfold PySem.leaving
 exact Pr.bind (fun _=>Pr.setFlight e none) (Pr.noteFrame e env)
section
variable {M:Model} {A:Around} {s:Shared} {E:Value->Shared->Prop}
theorem xP {base:Heap} {env:Env} {outer:List Env} {L e:Addr} {cls a0:Value} {Q:Unit->Shared->Prop}
  (hfr:A.frames=some (env::outer)) (hf:env.frame=some L) (hfl:Heap.FlyingW base (env::outer) e cls a0 s.heap) (x:Ex2 s.heap e)
  (hQ:∀ h',Heap.FlyingW base outer e cls a0 h'->s.heap.UpToSlots h'->Ex2 h' e->Q () { s with heap:=h' }):wpAny M A (leaving env (.ref e)) Q E s:=by
 refine wpAny_mono (kM (Q:=fun _ s'=>∃ h',s'={ s with heap:=h' }/\Heap.FlyingW base outer e cls a0 h'/\s.heap.UpToSlots h') (Pr.leaving _ _) x (wpAny_leaves_onW hfr hf hfl fun h' a b=>⟨h',rfl,a,b⟩)) (fun u s' q=>?_) fun _ _ z=>z
 obtain ⟨⟨h',rfl,a,b⟩,y⟩:=q
 exact hQ h' a b y
theorem sM {base h:Heap} {env:Env} {outer:List Env} {L e:Addr} {cls:Value} {args:List Value} {Q:Unit->Shared->Prop}
  (hfr:A.frames=some (env::outer)) (hf:env.frame=some L) (hkb:base.StaysIn h) (hl:h.FunFrames base (env::outer)) (hx:Heap.MadeExcOf h s.heap e cls args)
  (hQ:∀ h' t,Heap.FlyingW base outer e cls (.ref t) h'->s.heap.UpToSlots h'->Ex2 h' e->Q () { s with heap:=h' }):wpAny M A (leaving env (.ref e)) Q E s:=by
 have x:Ex2 s.heap e:=by
  obtain ⟨t,he,_,_⟩:=hx.there
  exact ⟨_,_,he,rfl,rfl⟩
 refine wpAny_mono (kM (Q:=fun _ s'=>∃ h' t,s'={ s with heap:=h' }/\Heap.FlyingW base outer e cls (.ref t) h'/\s.heap.UpToSlots h') (Pr.leaving _ _) x (wpAny_leaves_madeW hfr hf hkb hl hx fun h' t a _ _ b=>⟨h',t,rfl,a,b⟩)) (fun u s' q=>?_) fun _ _ z=>z
 obtain ⟨⟨h',t,rfl,a,b⟩,y⟩:=q
 exact hQ h' t a b y
theorem zI {base:Heap} {env:Env} {outer:List Env} {L e:Addr} {cls a0:Value} {Q:Unit->Shared->Prop}
  (hfr:A.frames=some (env::outer)) (hf:env.frame=some L) (hfl:Heap.FlyingW base (env::outer) e cls a0 s.heap) (x:Ex2 s.heap e)
  (hQ:∀ h',Heap.HeldW base (env::outer) e cls a0 L h'->s.heap.UpToSlots h'->Ex2 h' e->Q () { s with heap:=h' }):wpAny M A (noteFrame (.ref e) env) Q E s:=by
 refine wpAny_mono (kM (Q:=fun _ s'=>∃ h',s'={ s with heap:=h' }/\Heap.HeldW base (env::outer) e cls a0 L h'/\s.heap.UpToSlots h') (Pr.noteFrame _ _) x (wpAny_looks_onW hfr hf hfl fun h' a b=>⟨h',rfl,a,b⟩)) (fun u s' q=>?_) fun _ _ z=>z
 obtain ⟨⟨h',rfl,a,b⟩,y⟩:=q
 exact hQ h' a b y
theorem zGY {base:Heap} {l:List Env} {e L:Addr} {cls a0:Value} {Q:Unit->Shared->Prop} (hh:Heap.HeldW base l e cls a0 L s.heap) (x:Ex2 s.heap e)
  (hQ:∀ h',Heap.FlyingW base l e cls a0 h'->s.heap.UpToSlots h'->Ex2 h' e->Q () { s with heap:=h' }):wpAny M A (setFlight (.ref e) none) Q E s:=by
 refine wpAny_mono (kM (Q:=fun _ s'=>∃ h',s'={ s with heap:=h' }/\Heap.FlyingW base l e cls a0 h'/\s.heap.UpToSlots h') (Pr.setFlight _ _) x (wpAny_landsW hh fun h' a b=>⟨h',rfl,a,b⟩)) (fun u s' q=>?_) fun _ _ z=>z
 obtain ⟨⟨h',rfl,a,b⟩,y⟩:=q
 exact hQ h' a b y
theorem sW {base:Heap} {l:List Env} {e:Addr} {cls a0:Value} {Q:Unit->Shared->Prop} (hh:Heap.FlyingW base l e cls a0 s.heap) (x:Ex2 s.heap e)
  (hQ:∀ h',Heap.FlyingW base l e cls a0 h'->s.heap.UpToSlots h'->Ex2 h' e->Q () { s with heap:=h' }):wpAny M A (setFlight (.ref e) none) Q E s:=by
 refine wpAny_mono (kM (Q:=fun _ s'=>∃ h',s'={ s with heap:=h' }/\Heap.FlyingW base l e cls a0 h'/\s.heap.UpToSlots h') (Pr.setFlight _ _) x (lands_againW hh fun h' a b=>⟨h',rfl,a,b⟩)) (fun u s' q=>?_) fun _ _ z=>z
 obtain ⟨⟨h',rfl,a,b⟩,y⟩:=q
 exact hQ h' a b y
end
end L2
namespace L2
open PySem PySem.Spec PyProof.Rows
section
variable {P:Program} {w:World} {H H':Hp} {h:Heap} {a:Addr} {o:HO}
theorem gO.here (x:gO P w H h a o):∃ ob,h.get? a=some ob:=by
 cases o with
 | lst xs=>obtain ⟨_,_,_,_,e⟩:=x;exact ⟨_,e⟩
 | tup xs=>obtain ⟨_,_,_,e⟩:=x;obtain ⟨ob,e,_⟩:=e;exact ⟨_,e⟩
 | dK kvs=>obtain ⟨_,_,_,_,e⟩:=x;obtain ⟨ob,_,_,e,_⟩:=e;exact ⟨_,e⟩
 | dT kvs=>obtain ⟨_,_,_,_,ob,_,_,e,_⟩:=x;exact ⟨_,e⟩
 | set S n=>obtain ⟨ob,_,_,_,e,_⟩:=x;exact ⟨_,e⟩
 | ins C dx fs=>obtain ⟨_,_,_,e,_⟩:=x;exact ⟨_,e⟩
 | own y=>exact x
 | xd fs=>obtain ⟨_,⟨ob,_,_,e,_⟩,_⟩:=x;exact ⟨_,e⟩
 | met f y=>exact ⟨_,x⟩
 | rng lo hi=>obtain ⟨_,_,_,e⟩:=x;exact ⟨_,e⟩
 | frz ob u=>exact ⟨_,x.1⟩
 | tbl ps=>exact ⟨_,x⟩
 | ext φ=>exact x.2.1
theorem HOk.none_of (ok:HOk P w H h) (e:h.get? a=none):H a=none:=by
 cases q:H a with
 | none=>rfl
 | some o=>
  obtain ⟨ob,z⟩:=(ok a o q).here
  rw [e] at z;cases z
end
structure Fly (P:Program) (w:World) (l:List Env) (H H':Hp) (s:Shared) (ea:Addr) (cls:Value) (s':Shared):Prop where
 os:s'.os=s.os
 bare:AllBare s'.gens
 un:Un (frs l) [] H H' s.heap s'.heap
 hok:HOk P w H' s'.heap
 ne:H' ea=none
 new:s.heap.get? ea=none
 fly:∃ B a0,Heap.FlyingW B l ea cls a0 s'.heap/\(∀ b o,s'.heap.get? b=some o->((∃ o',s.heap.get? b=some o')∨H' b≠none)->b∉frs l->B.get? b=some o)
 ctx:Ex2 s'.heap ea
def CX1 (P:Program) (w:World):CXT:=fun outer H s E e s'=>∃ ea cls H',e=.ref ea/\Fly P w outer H H' s ea cls s'/\E cls none H'
structure Own (X:Cx):Prop where
 stk:X.stack=X.env::X.outer
 fr:X.env.frame=some X.env.locals
 ex:X.ex=[]
section
variable {X:Cx} {pins:List (Addr×Obj)} {σ:St} {H H':Hp} {s s':Shared} {ea:Addr} {cls:Value}
theorem xB (O:Own X):frs X.stack=X.env.locals::X.fs:=by
 rw [O.stk]
 show List.filterMap _ (_::_)=_
 rw [List.filterMap_cons,O.fr]
 rfl
theorem Inv.there0 (I:Inv X pins σ H s) (O:Own X) {b:Addr} {o:Obj} (e:X.s₀.heap.get? b=some o):∃ o',s.heap.get? b=some o':=I.base.there b o e (by rw [O.ex];simp)
theorem Inv.ne0 (I:Inv X pins σ H s) {b:Addr} {o:Obj} (e:X.s₀.heap.get? b=some o):b≠X.env.locals:=Nat.ne_of_lt (Nat.lt_of_lt_of_le (Heap.lt_size e) I.ok.above)
theorem Fly.leave (I:Inv X pins σ H s) (O:Own X) (F:Fly X.prog X.w X.stack H H' s ea cls s') {h':Heap} {B:Heap} {a0:Value}
  (hf:Heap.FlyingW B X.stack ea cls a0 s'.heap) (cov:∀ b o,s'.heap.get? b=some o->((∃ o',s.heap.get? b=some o')∨H' b≠none)->b∉frs X.stack->B.get? b=some o)
  (hf':Heap.FlyingW B X.outer ea cls a0 h') (up:s'.heap.UpToSlots h') (x':Ex2 h' ea):Fly X.prog X.w X.outer X.H₀ H' X.s₀ ea cls { s' with heap:=h' }:=by
 have fst:frs X.stack=X.env.locals::X.fs:=xB O
 have nin:∀ {b:Addr},b≠X.env.locals->b∉X.fs->b∉frs X.stack:=fun h1 h2=>by rw [fst];simp [h1,h2]
 have trk:∀ {b:Addr},H' b≠none->b∉frs X.stack:=fun {b} hb hm=>by
  have h1:=I.stkFree b hm
  obtain ⟨_,o,ho,_⟩:=I.stack.mem hm
  exact hb (F.un.free b o ho h1 (by simp))
 have keepB:∀ {b:Addr} {o:Obj},s'.heap.get? b=some o->((∃ o',s.heap.get? b=some o')∨H' b≠none)->b∉frs X.stack->h'.get? b=some o:=fun e1 e2 e3=>hf'.1 _ _ (cov _ _ e1 e2 e3)
 have slotOf:∀ {b:Addr} {o:Obj},b∈frs X.stack->s'.heap.get? b=some o->∃ sl,h'.get? b=some { o with slots:=sl }:=fun {b o} hm e=>by
  obtain ⟨_,o',ho',hn⟩:=hf.2.2.1.mem hm
  rw [e] at ho';cases ho'
  exact up b o e hn
 refine ⟨F.os.trans I.os,F.bare,⟨?_,?_,?_,?_,?_,?_,?_⟩,?_,F.ne,?_,⟨B,a0,hf',?_⟩,x'⟩
 ·intro b o e n hb hx
  have e1:=I.base.keep b o e n hb (by rw [O.ex];simp)
  have n1:=I.base.free b o e n (by rw [O.ex];simp)
  have hs:b∉frs X.stack:=nin (I.ne0 e) hb
  exact keepB (F.un.keep b o e1 n1 hs (by simp)) (.inl ⟨o,e1⟩) hs
 ·intro b o e n hb hx
  obtain ⟨sl,e1⟩:=I.base.slot b o e n hb (by rw [O.ex];simp)
  have n1:=I.base.free b o e n (by rw [O.ex];simp)
  have hs:b∈frs X.stack:=by rw [fst];exact List.mem_cons_of_mem _ hb
  obtain ⟨sl2,e2⟩:=F.un.slot b _ e1 n1 hs (by simp)
  obtain ⟨sl3,e3⟩:=slotOf hs e2
  exact ⟨sl3,e3⟩
 ·intro b o e n hx
  obtain ⟨o1,e1⟩:=I.there0 O e
  exact F.un.free b o1 e1 (I.base.free b o e n (by rw [O.ex];simp)) (by simp)
 ·intro b o e hx
  obtain ⟨o1,e1⟩:=I.there0 O e
  obtain ⟨o2,e2⟩:=F.un.there b o1 e1 (by simp)
  by_cases hs:b∈frs X.stack
  ·obtain ⟨sl,e3⟩:=slotOf hs e2
   exact ⟨_,e3⟩
  ·exact ⟨o2,keepB e2 (.inl ⟨o1,e1⟩) hs⟩
 ·exact fun b xs e=>F.un.tups b xs (I.base.tups b xs e)
 ·exact fun b o u e=>F.un.frzs b o u (I.base.frzs b o u e)
 ·intro b ps e
  obtain ⟨m1,e1⟩:=I.base.tbls b ps e
  obtain ⟨m2,e2⟩:=F.un.tbls b _ e1
  exact ⟨m1++m2,by rw [e2,Array.append_assoc]⟩
 ·intro a o e
  refine (F.hok a o e).stay (fun b u hb z=>?_) (fun b z=>z) (fun b xs z=>z)
  have hb':H' b≠none:=by
   rcases hb with rfl | hb
   ·rw [e];simp
   ·rw [hb];simp
  exact keepB z (.inr hb') (trk hb')
 ·show X.s₀.heap.get? ea=none
  cases q:X.s₀.heap.get? ea with
  | none=>rfl
  | some o=>
   obtain ⟨o1,e1⟩:=I.there0 O q
   rw [F.new] at e1;cases e1
 ·intro b o e c hb
  have c':(∃ o',s.heap.get? b=some o')∨H' b≠none:=by
   rcases c with ⟨o',c⟩ | c
   ·exact .inl (I.there0 O c)
   ·exact .inr c
  have hs:b∉frs X.stack:=by
   rcases c with ⟨o',c⟩ | c
   ·exact nin (I.ne0 c) hb
   ·exact trk c
  have ex:∃ o2,s'.heap.get? b=some o2:=by
   rcases c' with ⟨o',c1⟩ | c1
   ·exact F.un.there b o' c1 (by simp)
   ·cases q:H' b with
    | none=>exact absurd q c1
    | some u=>exact (F.hok b u q).here
  obtain ⟨o2,e2⟩:=ex
  have z:=keepB e2 c' hs
  have z':h'.get? b=some o:=e
  rw [z] at z';cases z'
  exact cov b o e2 c' hs
end
end L2
namespace L2
open PySem PySem.Spec PyProof.Rows
section
variable {X:Cx} {pins:List (Addr×Obj)} {σ:St} {H H':Hp} {s s':Shared} {ea:Addr} {cls:Value}
theorem zHr (l:List Env):∀ env∈l,∀ b,env.frame=some b->b∈frs l:=fun env he b hb=>List.mem_filterMap.mpr ⟨env,he,hb⟩
theorem Fly.made (I:Inv X pins σ H s) (O:Own X) {vs:List Value} (hx:Heap.MadeExcOf s.heap s'.heap ea cls vs) (hos:s'.os=s.os) (hg:AllBare s'.gens) {h':Heap} {t:Addr}
  (hf':Heap.FlyingW (PySem.W.hideAll s.heap (frs X.stack)) X.outer ea cls (.ref t) h') (up:s'.heap.UpToSlots h') (x':Ex2 h' ea):Fly X.prog X.w X.outer X.H₀ H X.s₀ ea cls { s' with heap:=h' }:=by
 have fst:frs X.stack=X.env.locals::X.fs:=xB O
 have nin:∀ {b:Addr},b≠X.env.locals->b∉X.fs->b∉frs X.stack:=fun h1 h2=>by rw [fst];simp [h1,h2]
 have trk:∀ {b:Addr},H b≠none->b∉frs X.stack:=fun {b} hb hm=>hb (I.stkFree b hm)
 have keepB:∀ {b:Addr} {o:Obj},s.heap.get? b=some o->b∉frs X.stack->h'.get? b=some o:=fun e1 e3=>hf'.1 _ _ (PySem.W.hideAll_get _ e1 e3)
 have slotOf:∀ {b:Addr} {o:Obj},b∈frs X.stack->s.heap.get? b=some o->∃ sl,h'.get? b=some { o with slots:=sl }:=fun {b o} hm e=>by
  obtain ⟨_,o',ho',hn⟩:=I.stack.mem hm
  rw [e] at ho';cases ho'
  exact up b o (hx.keeps b o e) hn
 refine ⟨hos.trans I.os,hg,⟨?_,?_,?_,?_,?_,?_,?_⟩,?_,?_,?_,⟨_,_,hf',?_⟩,x'⟩
 ·intro b o e n hb hx'
  exact keepB (I.base.keep b o e n hb (by rw [O.ex];simp)) (nin (I.ne0 e) hb)
 ·intro b o e n hb hx'
  obtain ⟨sl,e1⟩:=I.base.slot b o e n hb (by rw [O.ex];simp)
  have hs:b∈frs X.stack:=by rw [fst];exact List.mem_cons_of_mem _ hb
  obtain ⟨sl3,e3⟩:=slotOf hs e1
  exact ⟨sl3,e3⟩
 ·exact fun b o e n hx'=>I.base.free b o e n (by rw [O.ex];simp)
 ·intro b o e hx'
  obtain ⟨o1,e1⟩:=I.there0 O e
  by_cases hs:b∈frs X.stack
  ·obtain ⟨sl,e3⟩:=slotOf hs e1
   exact ⟨_,e3⟩
  ·exact ⟨o1,keepB e1 hs⟩
 ·exact fun b xs e=>I.base.tups b xs e
 ·exact fun b o u e=>I.base.frzs b o u e
 ·exact fun b ps e=>I.base.tbls b ps e
 ·intro a o e
  refine (I.hok a o e).stay (fun b u hb z=>?_) (fun b z=>z) (fun b xs z=>z)
  have hb':H b≠none:=by
   rcases hb with rfl | hb
   ·rw [e];simp
   ·rw [hb];simp
  exact keepB z (trk hb')
 ·exact I.hok.none_of hx.new
 ·show X.s₀.heap.get? ea=none
  cases q:X.s₀.heap.get? ea with
  | none=>rfl
  | some o=>
   obtain ⟨o1,e1⟩:=I.there0 O q
   rw [hx.new] at e1;cases e1
 ·intro b o e c hb
  have hs:b∉frs X.stack:=by
   rcases c with ⟨o',c⟩ | c
   ·exact nin (I.ne0 c) hb
   ·exact trk c
  have ex:∃ o2,s.heap.get? b=some o2:=by
   rcases c with ⟨o',c1⟩ | c1
   ·exact I.there0 O c1
   ·cases q:H b with
    | none=>exact absurd q c1
    | some u=>exact (I.hok b u q).here
  obtain ⟨o2,e2⟩:=ex
  have z:=keepB e2 hs
  have z':h'.get? b=some o:=e
  rw [z] at z';cases z'
  exact PySem.W.hideAll_get _ e2 hs
end
section
variable {CX:CXT} {P:Program} {w:World} {K:PySem.W.Frag} {mg:Str->Option Value} {base:Heap} {N:List Str} {qual:Str} {scope:Scope} {f:Addr} {cd:Value} {A:Around} {outer:List Env} {s₀:Shared} {H₀:Hp} {E:XK}
theorem yL:Own (xG CX P w K mg base N qual scope f cd A outer s₀ H₀ E):=⟨rfl,rfl,rfl⟩
theorem zII {E':XK} (h:∀ c H',E' c none H'->E c none H'):wJ (CX1 P w) (xG (CX1 P w) P w K mg base N qual scope f cd A outer s₀ H₀ E) E':=by
 intro pins σ H s e s' I hc
 obtain ⟨ea,cls,H',rfl,F,q⟩:=hc
 obtain ⟨B,a0,hf,cov⟩:=F.fly
 have O:Own (xG (CX1 P w) P w K mg base N qual scope f cd A outer s₀ H₀ E):=yL
 exact xP (I.ok.frames.trans (congrArg some O.stk)) O.fr hf F.ctx fun h' hf' up x'=>⟨ea,cls,H',rfl,F.leave I O hf cov hf' up x',h _ _ q⟩
theorem uO {pins:List (Addr×Obj)} {σ:St} {H:Hp} {s s':Shared} {ea:Addr} {cls:Value} {vs:List Value} (I:Inv (xG (CX1 P w) P w K mg base N qual scope f cd A outer s₀ H₀ E) pins σ H s)
  (hx:Heap.MadeExcOf s.heap s'.heap ea cls vs) (hos:s'.os=s.os) (hg:AllBare s'.gens) (q:E cls none H):(xG (CX1 P w) P w K mg base N qual scope f cd A outer s₀ H₀ E).xe (.ref ea) s':=by
 have O:Own (xG (CX1 P w) P w K mg base N qual scope f cd A outer s₀ H₀ E):=yL
 have hst:=O.stk
 exact sM (base:=PySem.W.hideAll s.heap (frs (xG (CX1 P w) P w K mg base N qual scope f cd A outer s₀ H₀ E).stack)) (h:=s.heap) (I.ok.frames.trans (congrArg some O.stk)) O.fr (fun b o z=>PySem.W.of_hideAll _ z)
  (PySem.W.funFrames_hide (I.stack) (zHr _)) hx fun h' t hf' up x'=>⟨ea,cls,H,rfl,Fly.made I O hx hos hg hf' up x',q⟩
end
structure Err (K:PySem.W.Frag) (mg:Str->Option Value) (x:Str) (C:Addr):Prop where
 own:∀ h:Heap,K.In h->∃ bm newId B initId,OwnCls x C bm newId mg h/\ExcBaseFacts B newId initId bm
end L2
namespace L3
open PySem
inductive D where
 | non | bl (b:Bool) | int (i:Int) | str (x:Str) | tup (ds:List D) | lst (ds:List D)
inductive Res (α:Type) where
 | ok (a:α) | err (c:Str) | no
def Res.bind {α β:Type} (x:Res α) (f:α->Res β):Res β:=match x with
 | .ok a=>f a
 | .err c=>.err c
 | .no=>.no
inductive Sl where
 | un | val (d:D) | own (ds:List D) | exc (c:Str) | tab (T:List (Str×Str)) | ins (c:Str) (fs:List (Str×D))
abbrev Rho:=List Sl
inductive Rt where
 | v (d:D) | f (ds:List D)
def Rt.d:Rt->D
 | .v d=>d
 | .f ds=>.lst ds
inductive Fl where
 | nx (ρ:Rho) | ret (r:Rt) | brk (ρ:Rho) | ctn (ρ:Rho)
abbrev Ev:=Rho->Res D
abbrev Fv:=Rho->Res (List D)
abbrev Tv:=Rho->Res Bool
abbrev Sv:=Rho->Res Fl
abbrev Mir:=List D->Res Rt
mutual
def eqD:D->D->Bool
 | .non,.non=>true
 | .bl a,.bl b=>a==b
 | .bl a,.int b=>(if a then 1 else 0)==b
 | .int a,.bl b=>a==(if b then 1 else 0)
 | .int a,.int b=>a==b
 | .str a,.str b=>a==b
 | .tup ds,.tup es=>yU ds es
 | .lst ds,.lst es=>yU ds es
 | _,_=>false
def yU:List D->List D->Bool
 | [],[]=>true
 | d::ds,e::es=>eqD d e && yU ds es
 | _,_=>false
end
mutual
def dep:D->Nat
 | .tup ds=>depS ds+1
 | .lst ds=>depS ds+1
 | _=>0
def depS:List D->Nat
 | []=>0
 | d::ds=>max (dep d) (depS ds)
end
mutual
def noL:D->Bool
 | .tup ds=>noLs ds
 | .lst _=>false
 | _=>true
def noLs:List D->Bool
 | []=>true
 | d::ds=>noL d && noLs ds
end
theorem jC:∀ {ds:List D} {d:D},d∈ds->dep d<=depS ds
 | e::ds,d,h=>by
  rw [depS]
  rcases List.mem_cons.mp h with rfl | h
  ·exact Nat.le_max_left ..
  ·exact Nat.le_trans (jC h) (Nat.le_max_right ..)
theorem zBQ:∀ {ds:List D},noLs ds=true ↔ ∀ d∈ds,noL d=true
 | []=>by simp [noLs]
 | d::ds=>by rw [noLs,Bool.and_eq_true,zBQ];simp
theorem iK:∀ (ds es:List D),yU ds es=((List.range (min ds.length es.length)).all (fun j=>eqD (ds.getD j .non) (es.getD j .non)) && ds.length==es.length)
 | [],[]=>rfl
 | [],e::es=>by simp [yU]
 | d::ds,[]=>by simp [yU]
 | d::ds,e::es=>by
  rw [yU,iK ds es]
  have h:min (d::ds).length (e::es).length=min ds.length es.length+1:=by simp only [List.length_cons];omega
  rw [h,List.range_succ_eq_map]
  simp [List.all_map,Function.comp_def,Bool.and_assoc]
mutual
theorem mH:∀ d:D,eqD d d=true
 | .non=>rfl
 | .bl b=>by simp [eqD]
 | .int i=>by simp [eqD]
 | .str x=>by simp [eqD]
 | .tup ds=>by rw [eqD];exact mW ds
 | .lst ds=>by rw [eqD];exact mW ds
theorem mW:∀ ds:List D,yU ds ds=true
 | []=>rfl
 | d::ds=>by rw [yU,mH d,mW ds];rfl
end
def nb (i:Int):Nat:=i.natAbs.log2+1
theorem zFb (i:Int):i.natAbs < 2^nb i:=Nat.lt_log2_self
theorem zIw {i:Int} {m:Nat} (h:i.natAbs < 2^m) (hm:0 < m):nb i<=m:=by
 unfold nb
 by_cases h0:i.natAbs=0
 ·rw [h0];exact hm
 ·exact (Nat.log2_lt h0).mpr h
def fI (i j:Int):Bool:=(decide (-(2^64) < i) && decide (i < 2^64)) || (decide (-(2^64) < j) && decide (j < 2^64)) || decide (nb i+nb j<=134217728)
def gN (j:Int):Bool:=decide (j≠0) && decide (nb j<=9000)
def kB (i j:Int):Bool:=decide (0<=j) && decide ((nb i:Int) * j<=2^27)
abbrev Op2:=D->D->Res D
def vA:Op2
 | .int i,.int j=>.ok (.int (i+j))
 | .tup a,.tup b=>if a.length+b.length<=16777216 then .ok (.tup (a++b)) else .no
 | _,_=>.no
def zJK:Op2
 | .int i,.int j=>.ok (.int (i+j))
 | _,_=>.no
def xI:Op2
 | .int i,.int j=>.ok (.int (i - j))
 | _,_=>.no
def pE:Op2
 | .int i,.int j=>if fI i j=true then .ok (.int (i * j)) else .no
 | _,_=>.no
def lD:Op2
 | .int i,.int j=>if gN j=true then .ok (.int (i.fdiv j)) else .no
 | _,_=>.no
def fS:Op2
 | .int i,.int j=>if j≠0 then .ok (.int (i.fmod j)) else .no
 | _,_=>.no
def nD:Op2
 | .int i,.int j=>if kB i j=true then .ok (.int (i^j.toNat)) else .no
 | _,_=>.no
def oEq (x y:D):Res D:=if dep x<=50 then .ok (.bl (eqD x y)) else .no
def oNe (x y:D):Res D:=if dep x<=50 then .ok (.bl (!eqD x y)) else .no
def oLt:Op2
 | .int i,.int j=>.ok (.bl (decide (i < j)))
 | _,_=>.no
def oLe:Op2
 | .int i,.int j=>.ok (.bl (decide (i<=j)))
 | _,_=>.no
def oGt:Op2
 | .int i,.int j=>.ok (.bl (decide (j < i)))
 | _,_=>.no
def oGe:Op2
 | .int i,.int j=>.ok (.bl (decide (j<=i)))
 | _,_=>.no
def atD (ds:List D) (i:Int):Option D:=if 0<=i then ds[i.toNat]? else if 0<=(ds.length:Int)+i then ds[((ds.length:Int)+i).toNat]? else none
def ofO {α:Type}:Option α->Res α
 | some a=>.ok a
 | none=>.no
def oIx:Op2
 | .tup ds,.int i=>ofO (atD ds i)
 | .lst ds,.int i=>ofO (atD ds i)
 | _,_=>.no
def oIn:Op2
 | d,.lst ds=>if depS ds<=50 then .ok (.bl (ds.any fun e=>eqD e d)) else .no
 | d,.tup ds=>if depS ds<=50 then .ok (.bl (ds.any fun e=>eqD e d)) else .no
 | _,_=>.no
def iQ:Op2
 | d,.lst ds=>if depS ds<=50 then .ok (.bl (!(ds.any fun e=>eqD e d))) else .no
 | d,.tup ds=>if depS ds<=50 then .ok (.bl (!(ds.any fun e=>eqD e d))) else .no
 | _,_=>.no
def zDr:D->Res D
 | .int i=>.ok (.int (-i))
 | _=>.no
def zJv:D->Res D
 | .bl b=>.ok (.bl (!b))
 | _=>.no
def aE (i:Nat) (ρ:Rho):Res D:=match ρ[i]? with
 | some (.val d)=>.ok d
 | _=>.no
def eC (d:D) (_ρ:Rho):Res D:=.ok d
def eOp (o:Op2) (a b:Ev) (ρ:Rho):Res D:=(a ρ).bind fun x=>(b ρ).bind fun y=>o x y
def eUn (o:D->Res D) (a:Ev) (ρ:Rho):Res D:=(a ρ).bind o
def zJl (a b:Ev) (ρ:Rho):Res D:=(a ρ).bind fun x=>match x with
 | .bl c=>if c=true then b ρ else .ok (.bl false)
 | _=>.no
def eOr (a b:Ev) (ρ:Rho):Res D:=(a ρ).bind fun x=>match x with
 | .bl c=>if c=true then .ok (.bl true) else b ρ
 | _=>.no
def eIf (t:Tv) (a b:Ev) (ρ:Rho):Res D:=(t ρ).bind fun c=>if c=true then a ρ else b ρ
def aNil (_ρ:Rho):Res (List D):=.ok []
def aB (e:Ev) (r:Fv) (ρ:Rho):Res (List D):=(e ρ).bind fun d=>(r ρ).bind fun ds=>.ok (d::ds)
def zCI (a:Fv) (ρ:Rho):Res D:=(a ρ).bind fun ds=>if ds.length<=16777216 then .ok (.tup ds) else .no
def bE (m:Mir) (a:Fv) (ρ:Rho):Res D:=(a ρ).bind fun ds=>(m ds).bind fun r=>.ok r.d
def pN:List D->Res D
 | [.lst ds]=>.ok (.int ds.length)
 | [.tup ds]=>.ok (.int ds.length)
 | _=>.no
def zDB:List D->Res D
 | [.int i]=>.ok (.int (if i < 0 then -i else i))
 | _=>.no
def zJZ:List D->Res D
 | [.int i,.int j]=>.ok (.int (if j < i then j else i))
 | _=>.no
def zFJ:List D->Res D
 | [.lst ds]=>.ok (.tup ds)
 | [.tup ds]=>.ok (.tup ds)
 | _=>.no
def zGb:List D->Res D
 | [.int i]=>.ok (.int i)
 | [.bl b]=>.ok (.int (if b then 1 else 0))
 | _=>.no
def eB (b:List D->Res D) (a:Fv) (ρ:Rho):Res D:=(a ρ).bind b
def tyN:D->String
 | .non => "NoneType" | .bl _ => "bool" | .int _ => "int" | .str _ => "str" | .tup _ => "tuple" | .lst _ => "list"
def isT (T:String) (d:D):Bool:=tyN d==T || (T == "int" && tyN d == "bool")
def zIs (T:String) (a:Ev) (ρ:Rho):Res D:=(a ρ).bind fun d=>.ok (.bl (isT T d))
def isNon:D->Bool
 | .non=>true
 | _=>false
def Sl.frz:Sl->Sl
 | .own ds=>.val (.lst ds)
 | s=>s
def zGC (e:Ev) (ρ:Rho):Res D:=(e (ρ.map Sl.frz)).bind fun d=>if noL d=true then .ok d else .no
def iE (a:Fv) (ρ:Rho):Res (List D):=(a ρ).bind fun ds=>if ds.length<=16777216 then .ok ds else .no
def jI (m:Mir) (a:Fv) (ρ:Rho):Res (List D):=(a ρ).bind fun ds=>(m ds).bind fun r=>match r with
 | .f ds=>.ok ds
 | .v _=>.no
def zBO (a:Fv) (ρ:Rho):Res (List D):=(a ρ).bind fun ds=>match ds with
 | [.lst ds]=>.ok ds
 | [.tup ds]=>.ok ds
 | _=>.no
def zIi (a b:Ev) (ρ:Rho):Res (List D):=(a ρ).bind fun x=>(b ρ).bind fun y=>match x,y with
 | .lst ds,.lst es=>if ds.length+es.length<=16777216 then .ok (ds++es) else .no
 | _,_=>.no
def eF (f:Fv) (ρ:Rho):Res D:=(f ρ).bind fun ds=>.ok (.lst ds)
def cut (n:Nat) (i:Option Int) (d:Nat):Nat:=match i with
 | none=>d
 | some i=>if 0<=i then min i.toNat n else ((n:Int)+i).toNat
def pJ (ds:List D) (lo hi:Option Int):List D:=(ds.drop (cut ds.length lo 0)).take (cut ds.length hi ds.length - cut ds.length lo 0)
abbrev Ov:=Rho->Res (Option Int)
def oN (_ρ:Rho):Res (Option Int):=.ok none
def oS (e:Ev) (ρ:Rho):Res (Option Int):=(e ρ).bind fun d=>match d with
 | .int i=>.ok (some i)
 | _=>.no
def fSl (a:Ev) (lo hi:Ov) (ρ:Rho):Res (List D):=(a ρ).bind fun x=>(lo ρ).bind fun l=>(hi ρ).bind fun h=>match x with
 | .lst ds=>.ok (pJ ds l h)
 | _=>.no
def dM (e:Ev) (ρ:Rho):Res Bool:=(e ρ).bind fun d=>match d with
 | .bl b=>.ok b
 | _=>.no
def tFrzB (t:Tv) (ρ:Rho):Res Bool:=t (ρ.map Sl.frz)
def zDO (t:Tv) (ρ:Rho):Res Bool:=(t ρ).bind fun b=>.ok (!b)
def sK (t u:Tv) (ρ:Rho):Res Bool:=(t ρ).bind fun b=>if b=true then u ρ else .ok false
def zBK (t u:Tv) (ρ:Rho):Res Bool:=(t ρ).bind fun b=>if b=true then .ok true else u ρ
def sNext (ρ:Rho):Res Fl:=.ok (.nx ρ)
def bQ (a b:Sv) (ρ:Rho):Res Fl:=(a ρ).bind fun f=>match f with
 | .nx ρ'=>b ρ'
 | f=>.ok f
def sIf (t:Tv) (a b:Sv) (ρ:Rho):Res Fl:=(t ρ).bind fun c=>if c=true then a ρ else b ρ
def dU (i:Nat) (e:Ev) (ρ:Rho):Res Fl:=(e ρ).bind fun d=>.ok (.nx (ρ.set i (.val d)))
def zET (i:Nat) (f:Fv) (ρ:Rho):Res Fl:=(f ρ).bind fun ds=>.ok (.nx (ρ.set i (.own ds)))
def rX (e:Ev) (ρ:Rho):Res Fl:=(e ρ).bind fun _=>.ok (.nx ρ)
def jG (e:Ev) (ρ:Rho):Res Fl:=(e (ρ.map Sl.frz)).bind fun d=>.ok (.ret (.v d))
def lS (f:Fv) (ρ:Rho):Res Fl:=(f (ρ.map Sl.frz)).bind fun ds=>.ok (.ret (.f ds))
def jD (i:Nat) (ρ:Rho):Res Fl:=match ρ[i]? with
 | some (.own ds)=>.ok (.ret (.f ds))
 | _=>.no
def sRetN (_ρ:Rho):Res Fl:=.ok (.ret (.v .non))
def kN (c:Str) (a:Fv) (ρ:Rho):Res Fl:=(a ρ).bind fun ds=>if ds.length<=16777216 then .err c else .no
def sNo (_ρ:Rho):Res Fl:=.no
def zEX (i:Nat) (e:Ev) (ρ:Rho):Res Fl:=match ρ[i]? with
 | some (.own ds)=>(e ρ).bind fun d=>if ds.length < 16777216 then .ok (.nx (ρ.set i (.own (ds++[d])))) else .no
 | _=>.no
def zFK (i:Nat) (k e:Ev) (ρ:Rho):Res Fl:=(e ρ).bind fun d=>match ρ[i]? with
 | some (.own ds)=>(k ρ).bind fun j=>match j with
  | .int j=>if 0<=j/\j < ds.length then .ok (.nx (ρ.set i (.own (ds.set j.toNat d)))) else if -(ds.length:Int)<=j/\j < 0 then .ok (.nx (ρ.set i (.own (ds.set (j+ds.length).toNat d)))) else .no
  | _=>.no
 | _=>.no
def zGX (i:Nat) (o:Op2) (e:Ev) (ρ:Rho):Res Fl:=match ρ[i]? with
 | some (.val x)=>(e ρ).bind fun y=>(o x y).bind fun d=>.ok (.nx (ρ.set i (.val d)))
 | _=>.no
def sFrz (s:Sv) (ρ:Rho):Res Fl:=s (ρ.map Sl.frz)
def frzAt (i:Nat) (ρ:Rho):Rho:=match ρ[i]? with
 | some (.own ds)=>ρ.set i (.val (.lst ds))
 | _=>ρ
def sFrzAt (i:Nat) (s:Sv) (ρ:Rho):Res Fl:=s (frzAt i ρ)
def noErr {α:Type}:Res α->Res α
 | .err _=>.no
 | r=>r
def zFH (i:Nat) (m:Mir) (a:Fv) (ρ:Rho):Res Fl:=(noErr (a ρ)).bind fun ds=>(m ds).bind fun r=>.ok (.nx (ρ.set i (.val r.d)))
def xIf (t:Tv) (a b:Sv) (ρ:Rho):Res Fl:=(noErr (t ρ)).bind fun c=>if c=true then a ρ else b ρ
def zHC (tb:List Str) (i:Nat) (b h:Sv) (ρ:Rho):Res Fl:=match b ρ with
 | .err c=>if tb.contains c=true then (match h (ρ.set i (.exc c)) with
   | .ok (.nx ρ')=>.ok (.nx (ρ'.set i .un))
   | _=>.no) else .no
 | r=>r
def uA (anc:List (Str×List Str)) (i:Nat) (cs:List Str) (ρ:Rho):Res D:=match ρ[i]? with
 | some (.exc c)=>(match anc.lookup c with
  | some l=>.ok (.bl (cs.any fun x=>l.contains x))
  | none=>.no)
 | _=>.no
abbrev Gv:=D->Rho->Res Rho
def gName (i:Nat) (d:D) (ρ:Rho):Res Rho:=.ok (ρ.set i (.val d))
def zFT (gs:List D->Rho->Res Rho) (d:D) (ρ:Rho):Res Rho:=match d with
 | .tup ds=>gs ds ρ
 | _=>.no
def zHQ (ds:List D) (ρ:Rho):Res Rho:=match ds with
 | []=>.ok ρ
 | _=>.no
def zAj (g:Gv) (r:List D->Rho->Res Rho) (ds:List D) (ρ:Rho):Res Rho:=match ds with
 | d::ds=>(g d ρ).bind fun ρ'=>r ds ρ'
 | []=>.no
def zJJ (g:Gv) (f:Ev) (ρ:Rho):Res Fl:=(f ρ).bind fun d=>(g d ρ).bind fun ρ'=>.ok (.nx ρ')
def dX (g:Gv) (b:Sv):List D->Rho->Res Fl
 | [],ρ=>.ok (.nx ρ)
 | d::ds,ρ=>(g d ρ).bind fun ρ1=>(b ρ1).bind fun f=>match f with
  | .nx ρ2=>dX g b ds ρ2
  | .ctn ρ2=>dX g b ds ρ2
  | .brk ρ2=>.ok (.nx ρ2)
  | .ret r=>.ok (.ret r)
def zCn (it:Fv) (g:Gv) (b:Sv) (ρ:Rho):Res Fl:=(it ρ).bind fun ds=>dX g b ds ρ
def zBR (e:Ev) (ρ:Rho):Res (List D):=(e ρ).bind fun d=>match d with
 | .lst ds=>.ok ds
 | .tup ds=>.ok ds
 | _=>.no
def zFI (e:Ev) (ρ:Rho):Res (List D):=(e ρ).bind fun d=>match d with
 | .lst ds=>.ok ds
 | _=>.no
def rng (lo:Int) (n:Nat) (c:Int):List D:=(List.range n).map fun (i:Nat)=>D.int (lo+(i:Int) * c)
def vE (a:Fv) (ρ:Rho):Res (List D):=(a ρ).bind fun ds=>match ds with
 | [.int j]=>if -(2^62)<=j/\j < 2^62 then .ok (rng 0 j.toNat 1) else .no
 | _=>.no
def wh (t:Tv) (b:Sv):Nat->Rho->Res Fl
 | 0,_=>.no
 | n+1,ρ=>(t ρ).bind fun c=>if c=true then (b ρ).bind fun f=>match f with
   | .nx ρ2=>wh t b n ρ2
   | .ctn ρ2=>wh t b n ρ2
   | .brk ρ2=>.ok (.nx ρ2)
   | .ret r=>.ok (.ret r)
  else .ok (.nx ρ)
open Classical in
def dI (t:Tv) (b:Sv) (ρ:Rho):Res Fl:=if h:∃ n,wh t b n ρ≠.no then wh t b h.choose ρ else .no
theorem qG {t:Tv} {b:Sv}:∀ {n:Nat} {ρ:Rho} {k:Nat},wh t b n ρ≠.no->n<=k->wh t b k ρ=wh t b n ρ
 | 0,ρ,k,h,_=>absurd rfl h
 | n+1,ρ,0,h,l=>absurd l (by omega)
 | n+1,ρ,k+1,h,l=>by
  rw [wh,wh]
  rw [wh] at h
  cases ht:t ρ with
  | no=>rfl
  | err c=>rfl
  | ok c=>
   rw [ht] at h
   simp only [Res.bind] at h ⊢
   cases c with
   | false=>rfl
   | true=>
    simp only [if_true] at h ⊢
    cases hb:b ρ with
    | no=>rfl
    | err c=>rfl
    | ok f=>
     rw [hb] at h
     cases f with
     | nx ρ2=>exact qG h (by omega)
     | ctn ρ2=>exact qG h (by omega)
     | brk ρ2=>rfl
     | ret r=>rfl
theorem dY {t:Tv} {b:Sv} {n:Nat} {ρ:Rho} (h:wh t b n ρ≠.no):dI t b ρ=wh t b n ρ:=by
 have hx:∃ n,wh t b n ρ≠.no:=⟨n,h⟩
 unfold dI
 rw [dif_pos hx]
 rcases Nat.le_total n hx.choose with l | l
 ·exact qG h l
 ·exact (qG hx.choose_spec l).symm
theorem jB {t:Tv} {b:Sv} {ρ:Rho} (h:dI t b ρ≠.no):∃ n,dI t b ρ=wh t b n ρ:=by
 unfold dI at h ⊢
 split
 ·exact ⟨_,rfl⟩
 ·rename_i hx;rw [dif_neg hx] at h;exact absurd rfl h
theorem sJ {t:Tv} {b:Sv} {ρ:Rho}:dI t b ρ=((t ρ).bind fun c=>if c=true then (b ρ).bind fun f=>match f with
   | .nx ρ2=>dI t b ρ2
   | .ctn ρ2=>dI t b ρ2
   | .brk ρ2=>.ok (.nx ρ2)
   | .ret r=>.ok (.ret r)
  else .ok (.nx ρ)):=by
 have key:∀ n,wh t b (n+1) ρ≠.no->wh t b (n+1) ρ=((t ρ).bind fun c=>if c=true then (b ρ).bind fun f=>match f with
   | .nx ρ2=>dI t b ρ2
   | .ctn ρ2=>dI t b ρ2
   | .brk ρ2=>.ok (.nx ρ2)
   | .ret r=>.ok (.ret r)
  else .ok (.nx ρ)):=by
  intro n h
  rw [wh] at h ⊢
  cases ht:t ρ with
  | no=>rfl
  | err c=>rfl
  | ok c=>
   rw [ht] at h
   simp only [Res.bind] at h ⊢
   cases c with
   | false=>rfl
   | true=>
    simp only [if_true] at h ⊢
    cases hb:b ρ with
    | no=>rfl
    | err c=>rfl
    | ok f=>
     rw [hb] at h
     cases f with
     | nx ρ2=>exact (dY h).symm
     | ctn ρ2=>exact (dY h).symm
     | brk ρ2=>rfl
     | ret r=>rfl
 by_cases h:dI t b ρ=.no
 ·rw [h]
  cases ht:t ρ with
  | no=>rfl
  | err c=>
   exfalso
   have q:wh t b 1 ρ=.err c:=by rw [wh,ht];rfl
   have:=dY (t:=t) (b:=b) (ρ:=ρ) (n:=1) (by rw [q];exact fun z=>by cases z)
   rw [h,q] at this;cases this
  | ok c=>
   simp only [Res.bind]
   cases c with
   | false=>
    exfalso
    have q:wh t b 1 ρ=.ok (.nx ρ):=by rw [wh,ht];rfl
    have:=dY (t:=t) (b:=b) (ρ:=ρ) (n:=1) (by rw [q];exact fun z=>by cases z)
    rw [h,q] at this;cases this
   | true=>
    simp only [if_true]
    cases hb:b ρ with
    | no=>rfl
    | err c=>
     exfalso
     have q:wh t b 1 ρ=.err c:=by rw [wh,ht];simp [Res.bind,hb]
     have:=dY (t:=t) (b:=b) (ρ:=ρ) (n:=1) (by rw [q];exact fun z=>by cases z)
     rw [h,q] at this;cases this
    | ok f=>
     have again:∀ ρ2,(f=.nx ρ2∨f=.ctn ρ2)->dI t b ρ2=.no:=by
      intro ρ2 hf
      by_cases h2:dI t b ρ2=.no
      ·exact h2
      ·exfalso
       obtain ⟨n,e⟩:=jB h2
       have q:wh t b (n+1) ρ=wh t b n ρ2:=by
        rw [wh,ht]
        simp only [Res.bind,if_true,hb]
        rcases hf with rfl | rfl<;>rfl
       have h3:wh t b (n+1) ρ≠.no:=by rw [q,<-e];exact h2
       have:=dY h3
       rw [h] at this
       exact h3 this.symm
     cases f with
     | nx ρ2=>exact (again ρ2 (.inl rfl)).symm
     | ctn ρ2=>exact (again ρ2 (.inr rfl)).symm
     | brk ρ2=>
      exfalso
      have q:wh t b 1 ρ=.ok (.nx ρ2):=by rw [wh,ht];simp [Res.bind,hb]
      have:=dY (t:=t) (b:=b) (ρ:=ρ) (n:=1) (by rw [q];exact fun z=>by cases z)
      rw [h,q] at this;cases this
     | ret r=>
      exfalso
      have q:wh t b 1 ρ=.ok (.ret r):=by rw [wh,ht];simp [Res.bind,hb]
      have:=dY (t:=t) (b:=b) (ρ:=ρ) (n:=1) (by rw [q];exact fun z=>by cases z)
      rw [h,q] at this;cases this
 ·obtain ⟨n,e⟩:=jB h
  cases n with
  | zero=>rw [e] at h;exact absurd rfl h
  | succ n=>rw [e];exact key n (by rw [<-e];exact h)
def zFF (f:Fv) (g:Ev) (ρ:Rho):Res (List D):=(f ρ).bind fun ds=>(g ρ).bind fun d=>match d with
 | .int k=>if 0<=k/\k < 2^62/\ds.length * k.toNat<=16777216 then .ok (List.replicate k.toNat ds).flatten else .no
 | _=>.no
def vI (_ρ:Rho):Res Bool:=.ok true
def dJ (t:Tv) (f:Ev) (ρ:Rho):List D->Res (List D)
 | []=>.ok []
 | d::ds=>(noErr (t (ρ++[.val d]))).bind fun c=>if c=true then (noErr (f (ρ++[.val d]))).bind fun e=>(dJ t f ρ ds).bind fun es=>.ok (e::es) else dJ t f ρ ds
def rB (it:Fv) (t:Tv) (f:Ev) (ρ:Rho):Res (List D):=(it ρ).bind fun ds=>if ds.length<=16777215 then dJ t f ρ ds else .no
def start (n:Nat) (ds:List D):Rho:=ds.map Sl.val++List.replicate (n - ds.length) .un
def fin:Fl->Res Rt
 | .nx _=>.ok (.v .non)
 | .ret r=>.ok r
 | .brk _=>.no
 | .ctn _=>.no
def fn (p n:Nat) (b:Sv) (ds:List D):Res Rt:=if ds.length=p then (b (start n ds)).bind fin else .no
def zBM:D->Option (List D)
 | .lst ds=>some ds
 | .tup ds=>some ds
 | _=>none
def jF:List D->List D->List D
 | a::r,b::q=>.tup [a,b]::jF r q
 | _,_=>[]
def zHl (a:Fv) (ρ:Rho):Res (List D):=(a ρ).bind fun ds=>match ds with
 | [x,y]=>match zBM x,zBM y with
  | some xs,some ys=>.ok (jF xs ys)
  | _,_=>.no
 | _=>.no
def dN (f:Ev) (ρ:Rho):List D->Res (List D)
 | []=>.ok []
 | .tup [a,b]::ds=>(noErr (f (ρ++[.val a,.val b]))).bind fun e=>(dN f ρ ds).bind fun es=>.ok (e::es)
 | _::_=>.no
def qB (it:Fv) (f:Ev) (ρ:Rho):Res (List D):=(it ρ).bind fun ds=>if ds.length<=16777215 then dN f ρ ds else .no
def zJV:D->Option Str
 | .str x=>some x
 | .int i=>if i.natAbs.log2 < 1920 then some (toString i) else none
 | _=>none
def zJW:Str->List D->Option Str
 | a,[]=>some a
 | a,d::r=>match zJV d with
  | some x=>if x.length<=sizeLine/\(a++x).length<=sizeLine then zJW (a++x) r else none
  | none=>none
def fQ:List D->Option (List Int)
 | []=>some []
 | .int i::ds=>match fQ ds with
  | some ns=>some (i::ns)
  | none=>none
 | _::_=>none
def rY:List D->Res D
 | [.lst ds]=>(match fQ ds with
  | some ns=>.ok (.int ns.sum)
  | none=>.no)
 | [.tup ds]=>(match fQ ds with
  | some ns=>.ok (.int ns.sum)
  | none=>.no)
 | _=>.no
def chO:Option Nat->Res D
 | some c=>.ok (.str ⟨#[c]⟩)
 | none=>.no
def eY:List D->Option (List Bool)
 | []=>some []
 | .bl b::r=>(eY r).map (b::·)
 | _=>none
def zKg:List D->Res D
 | [.lst ds]=>(match eY ds with | some bs=>.ok (.bl (bs.all id)) | none=>.no)
 | _=>.no
def zIV (b:Bool):D->Res D
 | .lst ds=>(match eY ds with | some bs=>.ok (.int (bs.countP (·==b):Nat)) | none=>.no)
 | _=>.no
def zHP (b:Bool):D->Res D
 | .lst ds=>(match eY ds with
  | some bs=>(match bs.findIdx? (·==b) with | some j=>.ok (.int (j:Nat)) | none=>.no)
  | none=>.no)
 | _=>.no
def zJB (b:Bool) (e:Ev) (ρ:Rho):Res D:=(e ρ).bind (zIV b)
def zIZ (b:Bool) (e:Ev) (ρ:Rho):Res D:=(e ρ).bind (zHP b)
def slS (l u:Option Int):D->Res D
 | .str x=>if x.length<=sizeLine then .ok (.str (Txt.slice x l u)) else .no
 | _=>.no
def lC (T:List (Str×Str)):D->Res D
 | .str x=>.ok (.bl (!(T.lookup x).isSome))
 | _=>.no
def zGS:Option Str->Res D
 | some y=>.ok (.str y)
 | none=>.no
def pI (T:List (Str×Str)):D->Res D
 | .str x=>zGS (T.lookup x)
 | _=>.no
def rP:Int->List Int->Int
 | a,[]=>a
 | a,b::r=>rP (if b > a then b else a) r
def zBw:List D->Res D
 | [.lst ds]=>(match fQ ds with | some (a::r)=>.ok (.int (rP a r)) | _=>.no)
 | _=>.no
end L3
namespace L3
open PySem
end L3
namespace L3
open PySem
def eX (kz:List Int) (π:List Nat):Prop:=π.Perm (List.range kz.length)/\π.Pairwise (fun i j=>kz.getD i 0<=kz.getD j 0)/\π.Pairwise (fun i j=>kz.getD i 0=kz.getD j 0->i < j)
def zBN (b:Int):D->Res Int
 | .tup [.int t,.int d]=>if gN d && fI t (b.fdiv d) then .ok (t * b.fdiv d) else .no
 | _=>.no
def iY (b:Int):List D->Res (List Int)
 | []=>.ok []
 | d::r=>(zBN b d).bind fun k=>(iY b r).bind fun ks=>.ok (k::ks)
def iB (π:List Nat):List D:=π.map fun i:Nat=>D.int (i:Int)
theorem zDT {b k:Int} {d:D} (h:zBN b d=.ok k):∃ t c,d=.tup [.int t,.int c]/\gN c=true/\fI t (b.fdiv c)=true/\k=t * b.fdiv c:=by
 unfold zBN at h
 split at h
 ·rename_i t c
  split at h
  ·rename_i hc
   rw [Bool.and_eq_true] at hc
   cases h
   exact ⟨t,c,rfl,hc.1,hc.2,rfl⟩
  ·cases h
 ·cases h
theorem rL {b:Int}:∀ {rows:List D} {kz:List Int},iY b rows=.ok kz->kz.length=rows.length/\∀ (j:Nat) (k:Int),kz[j]?=some k->∃ d,rows[j]?=some d/\zBN b d=.ok k
 | [],kz,h=>by cases h;exact ⟨rfl,fun j k z=>by simp at z⟩
 | d::r,kz,h=>by
  unfold iY at h
  cases e:zBN b d with
  | no=>rw [e] at h;cases h
  | err c=>rw [e] at h;cases h
  | ok k0=>
   rw [e] at h
   have h':(iY b r).bind (fun ks=>Res.ok (k0::ks))=.ok kz:=h
   cases e2:iY b r with
   | no=>rw [e2] at h';cases h'
   | err c=>rw [e2] at h';cases h'
   | ok ks=>
    rw [e2] at h'
    cases h'
    obtain ⟨h1,h2⟩:=rL e2
    refine ⟨by rw [List.length_cons,List.length_cons,h1],fun j k z=>?_⟩
    cases j with
    | zero=>simp at z;subst z;exact ⟨d,rfl,e⟩
    | succ j=>exact h2 j k (by simpa using z)
def vW (ρ:Rho):Res (List Int):=match ρ[0]?,ρ[1]? with
 | some (Sl.val (.lst rows)),some (Sl.val (.int b))=>if rows.length < 64 then iY b rows else .no
 | _,_=>.no
def qV (sa sb:Sv) (ds:List D):Res (List Int):=if ds.length=1 then (match sa (L3.start 3 ds) with
 | .ok (.nx ρ)=>(match sb ρ with
  | .ok (.nx ρ')=>vW ρ'
  | _=>.no)
 | _=>.no) else .no
theorem vT {b:Int}:∀ {rows:List D} {c:Str},iY b rows≠.err c
 | [],c,h=>by cases h
 | d::r,c,h=>by
  unfold iY at h
  have k0:∀ c,zBN b d≠.err c:=fun c z=>by
   unfold zBN at z
   split at z
   ·split at z<;>cases z
   ·cases z
  cases e:zBN b d with
  | no=>rw [e] at h;cases h
  | err c'=>exact k0 _ e
  | ok k=>
   rw [e] at h
   have h':(iY b r).bind (fun ks=>Res.ok (k::ks))=.err c:=h
   cases e2:iY b r with
   | no=>rw [e2] at h';cases h'
   | err c'=>exact vT e2
   | ok ks=>rw [e2] at h';cases h'
theorem zIG {sa sb:Sv} (ds:List D) (c:Str):qV sa sb ds≠.err c:=fun h=>by
 unfold qV vW at h
 split at h
 ·split at h
  ·split at h
   ·split at h
    ·split at h
     ·exact vT h
     ·cases h
    ·cases h
   ·cases h
  ·cases h
 ·cases h
theorem zGP {sa sb:Sv} (ds:List D) (h:qV sa sb ds≠.no):ds.length=1:=by
 unfold qV at h
 split at h
 ·assumption
 ·exact absurd rfl h
open Classical in
def jA (kz:List Int) (F:List Nat->Res Fl):Res Fl:=if h:∃ x,∀ π,eX kz π->F π=x then h.choose else .no
theorem xM {kz:List Int} {F:List Nat->Res Fl} {π:List Nat} (h:jA kz F≠.no) (hπ:eX kz π):F π=jA kz F:=by
 unfold jA at h ⊢
 split at h
 ·rename_i z;rw [dif_pos z];exact z.choose_spec π hπ
 ·exact absurd rfl h
theorem yA {kz:List Int} {F:List Nat->Res Fl} {x:Res Fl} {π:List Nat} (hπ:eX kz π) (h:∀ π,eX kz π->F π=x):jA kz F=x:=by
 have z:∃ x,∀ π,eX kz π->F π=x:=⟨x,h⟩
 unfold jA
 rw [dif_pos z,<-z.choose_spec π hπ]
 exact h π hπ
def zCg (fs:Fv) (kf:List D->Res (List Int)) (g:Gv) (b r:Sv):Sv:=fun ρ=>((fs ρ).bind kf).bind fun kz=>jA kz fun π=>bQ (fun ρ=>dX g b (iB π) ρ) r ρ
end L3
namespace L3
open PySem
end L3
namespace L3
open PySem
abbrev Tri:=D×List D×List D
end L3
namespace L3
open PySem
end L3
namespace L3
open PySem
end L3
namespace L3
open PySem
def uN (i:Nat) (ρ:Rho):Res Fl:=match ρ[i]? with
 | some (.own ds)=>.ok (.ret (.f ds))
 | some (.val d)=>.ok (.ret (.v d))
 | _=>.no
end L3
namespace L3
open PySem
def zGt (kz:List Int) (i j:Nat):Bool:=decide (kz.getD i 0 < kz.getD j 0) || decide (kz.getD i 0=kz.getD j 0) && decide (i<=j)
theorem jO {kz:List Int} {i j:Nat}:zGt kz i j=true ↔ kz.getD i 0 < kz.getD j 0∨kz.getD i 0=kz.getD j 0/\i<=j:=by
 unfold zGt
 rw [Bool.or_eq_true,Bool.and_eq_true,decide_eq_true_eq,decide_eq_true_eq,decide_eq_true_eq]
def wZ (kz:List Int):List Nat:=(List.range kz.length).mergeSort (zGt kz)
theorem zBp (kz:List Int):(wZ kz).Pairwise fun i j=>zGt kz i j=true:=
 List.pairwise_mergeSort (le:=zGt kz) (fun a b c h1 h2=>by rw [jO] at *;omega) (fun a b=>by rw [Bool.or_eq_true,jO,jO];omega) _
theorem zBG (kz:List Int):eX kz (wZ kz):=by
 have p:(wZ kz).Perm (List.range kz.length):=List.mergeSort_perm _ _
 have nd:(wZ kz).Nodup:=p.nodup_iff.mpr List.nodup_range
 have w:=zBp kz
 refine ⟨p,w.imp fun h=>?_,(List.Pairwise.and w nd).imp fun h=>?_⟩
 ·rw [jO] at h;omega
 ·obtain ⟨h1,h2⟩:=h
  rw [jO] at h1
  intro e
  omega
end L3
namespace L3
open PySem
end L3
namespace L3
open PySem
end L3
namespace L3
open PySem
end L3
namespace L3
open PySem
def pO:Int->List Int->Int
 | a,[]=>a
 | a,b::r=>pO (if b < a then b else a) r
def xQ:List D->Res D
 | [.lst ds]=>(match fQ ds with | some (a::r)=>.ok (.int (pO a r)) | _=>.no)
 | _=>.no
def whG (ds:List D) (x:D):Res D:=if depS ds<=50 then (match ds.findIdx? (fun e=>eqD e x) with | some j=>.ok (.int (j:Nat)) | none=>.no) else .no
def whF (g:Ev) (ρ:Rho):D->Res D
 | .lst ds=>(g ρ).bind (whG ds)
 | _=>.no
def eWh (f g:Ev) (ρ:Rho):Res D:=(f ρ).bind (whF g ρ)
end L3
namespace L3
open PySem
end L3
namespace L3
open PySem
inductive Vo where
 | v (d:D) | o (c:Str) (fs:List (Str×D))
end L3
namespace Fq
theorem wY {a b:Int} (ha:0<=a) (hb:0 < b):Int.gcd b (a % b)=Int.gcd a b:=by
 obtain ⟨m,rfl⟩:=Int.eq_ofNat_of_zero_le ha
 obtain ⟨n,rfl⟩:=Int.eq_ofNat_of_zero_le (Int.le_of_lt hb)
 show Nat.gcd n (m % n)=Nat.gcd m n
 rw [Nat.gcd_comm n (m % n),Nat.gcd_comm m n,Nat.gcd_rec n m]
def dv (t b:Int):Int:=if b < 0 then -(Int.gcd t b:Int) else (Int.gcd t b:Int)
theorem zEQ {t b:Int} (hb:b≠0):0 < (Int.gcd t b:Int):=by
 have h:Int.gcd t b≠0:=fun h=>hb (Int.gcd_eq_zero_iff.mp h).2
 omega
theorem zEB {t b:Int} (hb:b≠0):dv t b≠0:=by
 have:=zEQ (t:=t) hb
 unfold dv;split<;>omega
theorem rF (t b:Int):dv t b ∣ t:=by
 unfold dv;split
 ·exact Int.neg_dvd.mpr (Int.gcd_dvd_left ..)
 ·exact Int.gcd_dvd_left ..
theorem vX (t b:Int):dv t b ∣ b:=by
 unfold dv;split
 ·exact Int.neg_dvd.mpr (Int.gcd_dvd_right ..)
 ·exact Int.gcd_dvd_right ..
theorem iX {t d:Int} (h:d ∣ t):t.fdiv d=t / d:=by
 rw [Int.fdiv_eq_ediv]
 simp [h]
theorem tO {t b:Int} (hb:b≠0):t.fdiv (dv t b)=(Rat.divInt t b).num:=by
 rw [iX (rF t b),Rat.num_divInt,Int.gcd_comm b t]
 unfold dv
 rcases Int.lt_trichotomy b 0 with h | h | h
 ·rw [if_pos h,Int.sign_eq_neg_one_of_neg h,Int.ediv_neg]
  have:(-1:Int) * t=-t:=by omega
  rw [this,Int.neg_ediv_of_dvd (Int.gcd_dvd_left ..)]
 ·exact absurd h hb
 ·rw [if_neg (by omega),Int.sign_eq_one_of_pos h,Int.one_mul]
theorem sX {t b:Int} (hb:b≠0):b.fdiv (dv t b)=((Rat.divInt t b).den:Int):=by
 rw [iX (vX t b),Rat.den_divInt,if_neg hb,Int.gcd_comm b t]
 unfold dv
 rcases Int.lt_trichotomy b 0 with h | h | h
 ·rw [if_pos h,Int.ediv_neg,Int.natCast_ediv]
  have e:((b.natAbs:Nat):Int)=-b:=by omega
  rw [e,Int.neg_ediv_of_dvd (Int.gcd_dvd_right ..)]
 ·exact absurd h hb
 ·rw [if_neg (by omega),Int.natCast_ediv]
  have e:((b.natAbs:Nat):Int)=b:=by omega
  rw [e]
theorem eI (q:Rat):(q.den:Int)≠0:=by have:=q.den_nz;omega
theorem rD (q:Rat):(0:Int) < (q.den:Int):=by have:=q.den_nz;omega
theorem zFX (p q:Rat):Rat.divInt (p.num * q.den+q.num * p.den) (p.den * q.den)=p+q:=by
 rw [<-Rat.divInt_add_divInt _ _ (eI p) (eI q),Rat.num_divInt_den,Rat.num_divInt_den]
theorem zCX (p q:Rat):Rat.divInt (p.num * q.den - q.num * p.den) (p.den * q.den)=p - q:=by
 rw [<-Rat.divInt_sub_divInt _ _ (eI p) (eI q),Rat.num_divInt_den,Rat.num_divInt_den]
theorem zDj (p q:Rat):Rat.divInt (p.num * q.num) (p.den * q.den)=p * q:=by
 rw [<-Rat.divInt_mul_divInt,Rat.num_divInt_den,Rat.num_divInt_den]
theorem zAn (p q:Rat):Rat.divInt (p.num * q.den) (p.den * q.num)=p / q:=by
 rw [<-Rat.divInt_mul_divInt,Rat.num_divInt_den,Rat.div_def,Rat.inv_def]
theorem zDc {q:Rat}:q.num≠0 ↔ q≠0:=by
 constructor
 ·intro h e;exact h (by rw [e];rfl)
 ·intro h e;exact h (Rat.num_eq_zero.mp e)
def Sz (n:Nat) (q:Rat):Prop:=q.num.natAbs < 2^n/\q.den < 2^n
theorem Sz.mono {m n:Nat} {q:Rat} (h:Sz m q) (l:m<=n):Sz n q:=
 ⟨Nat.lt_of_lt_of_le h.1 (Nat.pow_le_pow_right (by decide) l),Nat.lt_of_lt_of_le h.2 (Nat.pow_le_pow_right (by decide) l)⟩
theorem zGn {t b:Int} (hb:b≠0):(Rat.divInt t b).num.natAbs<=t.natAbs:=by
 rw [<-tO hb,iX (rF t b),Int.natAbs_ediv_of_dvd (rF t b)]
 exact Nat.div_le_self ..
theorem zBA {t b:Int} (hb:b≠0):(Rat.divInt t b).den<=b.natAbs:=by
 rw [Rat.den_divInt,if_neg hb]
 exact Nat.div_le_self ..
theorem Sz.of {n:Nat} {t b:Int} (hb:b≠0) (ht:t.natAbs < 2^n) (h:b.natAbs < 2^n):Sz n (Rat.divInt t b):=
 ⟨Nat.lt_of_le_of_lt (zGn hb) ht,Nat.lt_of_le_of_lt (zBA hb) h⟩
theorem gI {a b:Int} {m n:Nat} (ha:a.natAbs < 2^m) (hb:b.natAbs < 2^n):(a * b).natAbs < 2^(m+n):=by
 rw [Int.natAbs_mul,Nat.pow_add]
 exact Nat.mul_lt_mul'' ha hb
theorem zHq {a b:Int} {m:Nat} (ha:a.natAbs < 2^m) (hb:b.natAbs < 2^m):(a - b).natAbs < 2^(m+1):=by
 rw [Nat.pow_succ];omega
theorem Sz.d {n:Nat} {q:Rat} (h:Sz n q):((q.den:Int)).natAbs < 2^n:=h.2
theorem Sz.sub {m n:Nat} {p q:Rat} (hp:Sz m p) (hq:Sz n q):Sz (m+n+1) (p - q):=by
 rw [<-zCX]
 refine Sz.of (Int.mul_ne_zero (eI p) (eI q)) (zHq (gI hp.1 hq.d) ?_) ?_
 ·rw [Nat.add_comm m n];exact gI hq.1 hp.d
 ·exact Nat.lt_of_lt_of_le (gI hp.d hq.d) (Nat.pow_le_pow_right (by decide) (by omega))
theorem Sz.mul {m n:Nat} {p q:Rat} (hp:Sz m p) (hq:Sz n q):Sz (m+n) (p * q):=by
 rw [<-zDj]
 exact Sz.of (Int.mul_ne_zero (eI p) (eI q)) (gI hp.1 hq.1) (gI hp.d hq.d)
theorem Sz.div {m n:Nat} {p q:Rat} (hp:Sz m p) (hq:Sz n q) (h:q≠0):Sz (m+n) (p / q):=by
 rw [<-zAn]
 exact Sz.of (Int.mul_ne_zero (eI p) (zDc.mpr h)) (gI hp.1 hq.d) (gI hp.d hq.1)
end Fq
namespace Fr
open L3 PySem Fq
theorem zDn {t:Tv} {b:Sv} {ρ:Rho} (P:Rho->Prop) (μ:Rho->Nat) (Q:Res Fl->Prop) (h0:P ρ)
  (step:∀ ρ,P ρ->(t ρ=.ok false/\Q (.ok (.nx ρ)))∨(t ρ=.ok true/\∃ ρ',b ρ=.ok (.nx ρ')/\P ρ'/\μ ρ' < μ ρ)):Q (dI t b ρ):=by
 have main:∀ n ρ,μ ρ<=n->P ρ->Q (dI t b ρ):=by
  intro n
  induction n with
  | zero=>
   intro ρ hn hp
   rw [sJ]
   rcases step ρ hp with ⟨h1,h2⟩ | ⟨h1,ρ',h2,h3,h4⟩
   ·rw [h1];exact h2
   ·omega
  | succ n ih=>
   intro ρ hn hp
   rw [sJ]
   rcases step ρ hp with ⟨h1,h2⟩ | ⟨h1,ρ',h2,h3,h4⟩
   ·rw [h1];exact h2
   ·rw [h1]
    simp only [Res.bind,if_true,h2]
    exact ih ρ' (by omega) h3
 exact main _ ρ (Nat.le_refl _) h0
theorem zZ {i:Int} {m:Nat} (h:i.natAbs < 2^m):nb i<=m+1:=zIw (Nat.lt_of_lt_of_le h (Nat.pow_le_pow_right (by decide) (by omega))) (by omega)
theorem cH {i j:Int} {m n:Nat} (hi:i.natAbs < 2^m) (hj:j.natAbs < 2^n) (h:m+n<=100000000):fI i j=true:=by
 unfold fI
 have h1:=zZ hi
 have h2:=zZ hj
 rw [Bool.or_eq_true]
 exact .inr (decide_eq_true (by omega))
theorem zFx {i j:Int} (h1:-(2^64) < j) (h2:j < 2^64):fI i j=true:=by
 unfold fI
 rw [Bool.or_eq_true,Bool.or_eq_true]
 exact .inl (.inr (by rw [decide_eq_true h1,decide_eq_true h2];rfl))
theorem zEu {i j:Int} (h1:-(2^64) < i) (h2:i < 2^64):fI i j=true:=by
 unfold fI
 rw [Bool.or_eq_true,Bool.or_eq_true]
 exact .inl (.inl (by rw [decide_eq_true h1,decide_eq_true h2];rfl))
theorem mP {j:Int} {m:Nat} (h0:j≠0) (hj:j.natAbs < 2^m) (h:m<=8999):gN j=true:=by
 unfold gN
 have h1:=zZ hj
 rw [decide_eq_true h0,decide_eq_true (show nb j<=9000 by omega)]
 rfl
theorem okDiv_lit {j:Int} (h0:0 < j) (h:j < 1000000000000000000):gN j=true:=mP (m:=64) (by omega) (by omega) (by decide)
theorem okMul_litr {i j:Int} (h1:-1000000000000000000 < j) (h2:j < 1000000000000000000):fI i j=true:=zFx (by omega) (by omega)
theorem okMul_litl {i j:Int} (h1:-1000000000000000000 < i) (h2:i < 1000000000000000000):fI i j=true:=zEu (by omega) (by omega)
theorem p10 (n:Nat):(0:Int) < 10^n:=Int.pow_pos (by decide)
theorem p10ne (n:Nat):((10:Int)^n=0)=False:=eq_false (by have:=p10 n;omega)
theorem p10pos2 (n:Nat):(0:Int) < 2 * 10^n:=by have:=p10 n;omega
theorem p10ne2 (n:Nat):((2:Int) * 10^n=0)=False:=eq_false (by have:=p10 n;omega)
theorem okp30:kB 10 30=true:=by decide
theorem okp59:kB 10 59=true:=by decide
theorem okp60:kB 10 60=true:=by decide
theorem okp40:kB 10 40=true:=by decide
def dq (q:Rat):D:=.tup [.int q.num,.int (q.den:Int)]
def dp (p:Rat×Rat):D:=.tup [dq p.1,dq p.2]
theorem eq_dq (p q:Rat):eqD (dq p) (dq q)=decide (p=q):=by
 show ((p.num==q.num) && (((p.den:Int)==(q.den:Int)) && true))=decide (p=q)
 by_cases h:p=q
 ·subst h;simp
 ·rw [decide_eq_false h]
  by_cases h1:p.num=q.num
  ·have h2:p.den≠q.den:=fun e=>h (Rat.ext h1 e)
   have:((p.den:Int)==(q.den:Int))=false:=by simp;omega
   rw [this];simp
  ·simp [h1]
theorem dep_dq (q:Rat):dep (dq q)=1:=rfl
theorem ix_dq0 (q:Rat):oIx (dq q) (.int 0)=.ok (.int q.num):=rfl
theorem ix_dq1 (q:Rat):oIx (dq q) (.int 1)=.ok (.int (q.den:Int)):=rfl
theorem ty_dq (q:Rat):tyN (dq q) = "tuple" := rfl
theorem len_dq (q:Rat):pN [dq q]=.ok (.int 2):=rfl
theorem oEq_dq (p q:Rat):oEq (dq p) (dq q)=.ok (.bl (decide (p=q))):=by
 rw [<-eq_dq];rfl
theorem oNe_dq (p q:Rat):oNe (dq p) (dq q)=.ok (.bl (!decide (p=q))):=by
 rw [<-eq_dq];rfl
theorem noL_dq (q:Rat):noL (dq q)=true:=rfl
theorem fdiv_pos (a:Int) {b:Int} (h:0 < b):a.fdiv b=a / b:=Int.fdiv_eq_ediv_of_nonneg a (by omega)
theorem fmod_pos (a:Int) {b:Int} (h:0 < b):a.fmod b=a % b:=Int.fmod_eq_emod_of_nonneg a (by omega)
theorem zEI (a:Int) {b:Int} (h:0<=b):a.fdiv b=a / b:=Int.fdiv_eq_ediv_of_nonneg a h
theorem uF (a:Int) {b:Int} (h:0<=b):a.fmod b=a % b:=Int.fmod_eq_emod_of_nonneg a h
theorem zGo {b:Int} (h:0 < b):(.tup [.int 1,.int b]:D)=dq (Rat.divInt 1 b):=by
 have hb:b≠0:=by omega
 have e:Fq.dv 1 b=1:=by unfold Fq.dv;rw [if_neg (by omega)];simp
 unfold dq
 rw [<-Fq.tO hb,<-Fq.sX hb,e]
 simp
theorem zFL (k:Int):(.tup [.int k,.int 1]:D)=dq (k:Rat):=rfl
end Fr
namespace L3
open PySem
def wH (b:Sv):Fl->Res Fl
 | .nx ρ=>b ρ
 | .ret r=>.ok (.ret r)
 | .brk ρ=>.ok (.brk ρ)
 | .ctn ρ=>.ok (.ctn ρ)
theorem sSeq_at {a b:Sv} {ρ:Rho}:bQ a b ρ=(a ρ).bind (wH b):=by
 unfold bQ;congr;funext f;cases f<;>rfl
def ifF (a b:Sv) (ρ:Rho):Bool->Res Fl
 | true=>a ρ
 | false=>b ρ
theorem sIf_at {t:Tv} {a b:Sv} {ρ:Rho}:sIf t a b ρ=(t ρ).bind (ifF a b ρ):=by
 unfold sIf;congr;funext c;cases c<;>rfl
def zIy (a b:Ev) (ρ:Rho):Bool->Res D
 | true=>a ρ
 | false=>b ρ
theorem eIf_at {t:Tv} {a b:Ev} {ρ:Rho}:eIf t a b ρ=(t ρ).bind (zIy a b ρ):=by
 unfold eIf;congr;funext c;cases c<;>rfl
def zIu (b:Ev) (ρ:Rho):D->Res D
 | .bl true=>b ρ
 | .bl false=>.ok (.bl false)
 | _=>.no
theorem eAnd_at {a b:Ev} {ρ:Rho}:zJl a b ρ=(a ρ).bind (zIu b ρ):=by
 unfold zJl;congr;funext c;cases c<;>try rfl
 rename_i c;cases c<;>rfl
def orF (b:Ev) (ρ:Rho):D->Res D
 | .bl true=>.ok (.bl true)
 | .bl false=>b ρ
 | _=>.no
theorem eOr_at {a b:Ev} {ρ:Rho}:eOr a b ρ=(a ρ).bind (orF b ρ):=by
 unfold eOr;congr;funext c;cases c<;>try rfl
 rename_i c;cases c<;>rfl
def opF (o:Op2) (b:Ev) (ρ:Rho) (x:D):Res D:=(b ρ).bind (o x)
theorem eOp_at {o:Op2} {a b:Ev} {ρ:Rho}:eOp o a b ρ=(a ρ).bind (opF o b ρ):=rfl
def consG (d:D) (ds:List D):Res (List D):=.ok (d::ds)
def consF (r:Fv) (ρ:Rho) (d:D):Res (List D):=(r ρ).bind (consG d)
theorem aCons_at {e:Ev} {r:Fv} {ρ:Rho}:aB e r ρ=(e ρ).bind (consF r ρ):=rfl
def tupF (ds:List D):Res D:=if ds.length<=16777216 then .ok (.tup ds) else .no
theorem eTup_at {a:Fv} {ρ:Rho}:zCI a ρ=(a ρ).bind tupF:=rfl
def rtF (r:Rt):Res D:=.ok r.d
def callF (m:Mir) (ds:List D):Res D:=(m ds).bind rtF
theorem eCall_at {m:Mir} {a:Fv} {ρ:Rho}:bE m a ρ=(a ρ).bind (callF m):=rfl
def isTF (T:String) (d:D):Res D:=.ok (.bl (isT T d))
theorem eIsT_at {T:String} {a:Ev} {ρ:Rho}:zIs T a ρ=(a ρ).bind (isTF T):=rfl
def frzF (d:D):Res D:=if noL d=true then .ok d else .no
theorem eFrz_at {e:Ev} {ρ:Rho}:zGC e ρ=(e (ρ.map Sl.frz)).bind frzF:=rfl
def fLstF (ds:List D):Res (List D):=if ds.length<=16777216 then .ok ds else .no
theorem fLst_at {a:Fv} {ρ:Rho}:iE a ρ=(a ρ).bind fLstF:=rfl
def rtFF:Rt->Res (List D)
 | .f ds=>.ok ds
 | .v _=>.no
def fcallF (m:Mir) (ds:List D):Res (List D):=(m ds).bind rtFF
theorem fCall_at {m:Mir} {a:Fv} {ρ:Rho}:jI m a ρ=(a ρ).bind (fcallF m):=by
 unfold jI fcallF;congr
def yS:List D->Res (List D)
 | [.lst ds]=>.ok ds
 | [.tup ds]=>.ok ds
 | _=>.no
theorem fListF_l {ds:List D}:yS [.lst ds]=.ok ds:=rfl
theorem fListF_t {ds:List D}:yS [.tup ds]=.ok ds:=rfl
theorem fList_at {a:Fv} {ρ:Rho}:zBO a ρ=(a ρ).bind yS:=rfl
def catG (x y:D):Res (List D):=match x,y with
 | .lst ds,.lst es=>if ds.length+es.length<=16777216 then .ok (ds++es) else .no
 | _,_=>.no
def catF (b:Ev) (ρ:Rho) (x:D):Res (List D):=(b ρ).bind (catG x)
theorem fCat_at {a b:Ev} {ρ:Rho}:zIi a b ρ=(a ρ).bind (catF b ρ):=rfl
def efF (ds:List D):Res D:=.ok (.lst ds)
theorem eF_at {f:Fv} {ρ:Rho}:eF f ρ=(f ρ).bind efF:=rfl
def oSF:D->Res (Option Int)
 | .int i=>.ok (some i)
 | _=>.no
theorem oS_at {e:Ev} {ρ:Rho}:oS e ρ=(e ρ).bind oSF:=by
 unfold oS;congr
def fSlH (x:D) (l h:Option Int):Res (List D):=match x with
 | .lst ds=>.ok (pJ ds l h)
 | _=>.no
def fSlG (hi:Ov) (ρ:Rho) (x:D) (l:Option Int):Res (List D):=(hi ρ).bind (fSlH x l)
def fSlF (lo hi:Ov) (ρ:Rho) (x:D):Res (List D):=(lo ρ).bind (fSlG hi ρ x)
theorem fSl_at {a:Ev} {lo hi:Ov} {ρ:Rho}:fSl a lo hi ρ=(a ρ).bind (fSlF lo hi ρ):=rfl
def blF:D->Res Bool
 | .bl b=>.ok b
 | _=>.no
theorem tVal_at {e:Ev} {ρ:Rho}:dM e ρ=(e ρ).bind blF:=by
 unfold dM;congr
def notF (b:Bool):Res Bool:=.ok (!b)
theorem tNotB_at {t:Tv} {ρ:Rho}:zDO t ρ=(t ρ).bind notF:=rfl
def zEY (u:Tv) (ρ:Rho):Bool->Res Bool
 | true=>u ρ
 | false=>.ok false
theorem tAndB_at {t u:Tv} {ρ:Rho}:sK t u ρ=(t ρ).bind (zEY u ρ):=by
 unfold sK;congr;funext c;cases c<;>rfl
def zIQ (u:Tv) (ρ:Rho):Bool->Res Bool
 | true=>.ok true
 | false=>u ρ
theorem tOrB_at {t u:Tv} {ρ:Rho}:zBK t u ρ=(t ρ).bind (zIQ u ρ):=by
 unfold zBK;congr;funext c;cases c<;>rfl
def setF (i:Nat) (ρ:Rho) (d:D):Res Fl:=.ok (.nx (ρ.set i (.val d)))
theorem sSet_at {i:Nat} {e:Ev} {ρ:Rho}:dU i e ρ=(e ρ).bind (setF i ρ):=rfl
def ownF (i:Nat) (ρ:Rho) (ds:List D):Res Fl:=.ok (.nx (ρ.set i (.own ds)))
theorem sOwn_at {i:Nat} {f:Fv} {ρ:Rho}:zET i f ρ=(f ρ).bind (ownF i ρ):=rfl
def dropF (ρ:Rho) (_d:D):Res Fl:=.ok (.nx ρ)
theorem sDrop_at {e:Ev} {ρ:Rho}:rX e ρ=(e ρ).bind (dropF ρ):=rfl
def retF (d:D):Res Fl:=.ok (.ret (.v d))
theorem sRet_at {e:Ev} {ρ:Rho}:jG e ρ=(e (ρ.map Sl.frz)).bind retF:=rfl
def retFF (ds:List D):Res Fl:=.ok (.ret (.f ds))
theorem sRetF_at {f:Fv} {ρ:Rho}:lS f ρ=(f (ρ.map Sl.frz)).bind retFF:=rfl
def raiseF (c:Str) (ds:List D):Res Fl:=if ds.length<=16777216 then .err c else .no
theorem sRaise_at {c:Str} {a:Fv} {ρ:Rho}:kN c a ρ=(a ρ).bind (raiseF c):=rfl
def appF (i:Nat) (ρ:Rho) (ds:List D) (d:D):Res Fl:=if ds.length < 16777216 then .ok (.nx (ρ.set i (.own (ds++[d])))) else .no
def appS (i:Nat) (e:Ev) (ρ:Rho):Option Sl->Res Fl
 | some (.own ds)=>(e ρ).bind (appF i ρ ds)
 | _=>.no
theorem sApp_at {i:Nat} {e:Ev} {ρ:Rho}:zEX i e ρ=appS i e ρ ρ[i]?:=by
 unfold zEX appS;rfl
def augF (i:Nat) (ρ:Rho) (o:Op2) (x y:D):Res Fl:=(o x y).bind (setF i ρ)
def augS (i:Nat) (o:Op2) (e:Ev) (ρ:Rho):Option Sl->Res Fl
 | some (.val x)=>(e ρ).bind (augF i ρ o x)
 | _=>.no
theorem sAug_at {i:Nat} {o:Op2} {e:Ev} {ρ:Rho}:zGX i o e ρ=augS i o e ρ ρ[i]?:=by
 unfold zGX augS;rfl
def dropG (ρ:Rho) (_r:Rt):Res Fl:=.ok (.nx ρ)
def setG (i:Nat) (ρ:Rho) (r:Rt):Res Fl:=.ok (.nx (ρ.set i (.val r.d)))
def xsetF (i:Nat) (m:Mir) (ρ:Rho) (ds:List D):Res Fl:=(m ds).bind (setG i ρ)
theorem xSet_at {i:Nat} {m:Mir} {a:Fv} {ρ:Rho}:zFH i m a ρ=(noErr (a ρ)).bind (xsetF i m ρ):=rfl
theorem xIf_at {t:Tv} {a b:Sv} {ρ:Rho}:xIf t a b ρ=(noErr (t ρ)).bind (ifF a b ρ):=by
 unfold xIf;congr;funext c;cases c<;>rfl
def zEp (i:Nat):Res Fl->Res Fl
 | .ok (.nx ρ')=>.ok (.nx (ρ'.set i .un))
 | _=>.no
def zFE (i:Nat) (h:Sv) (ρ:Rho) (c:Str):Bool->Res Fl
 | true=>zEp i (h (ρ.set i (.exc c)))
 | false=>.no
def zIT (tb:List Str) (i:Nat) (h:Sv) (ρ:Rho):Res Fl->Res Fl
 | .err c=>zFE i h ρ c (tb.contains c)
 | .ok f=>.ok f
 | .no=>.no
theorem sTry_at {tb:List Str} {i:Nat} {b h:Sv} {ρ:Rho}:zHC tb i b h ρ=zIT tb i h ρ (b ρ):=by
 unfold zHC
 cases b ρ with
 | ok f=>rfl
 | no=>rfl
 | err c=>
  show (if tb.contains c=true then _ else _)=zFE i h ρ c (tb.contains c)
  cases tb.contains c with
  | false=>rfl
  | true=>
   simp only [if_true,zFE]
   cases h (ρ.set i (.exc c)) with
   | ok f=>cases f<;>rfl
   | _=>rfl
def zIW (anc:List (Str×List Str)) (cs:List Str):Option Sl->Res D
 | some (.exc c)=>(match anc.lookup c with
  | some l=>.ok (.bl (cs.any fun x=>l.contains x))
  | none=>.no)
 | _=>.no
theorem eIsE_at {anc:List (Str×List Str)} {i:Nat} {cs:List Str} {ρ:Rho}:uA anc i cs ρ=zIW anc cs ρ[i]?:=by
 unfold uA zIW;rfl
def varS:Option Sl->Res D
 | some (.val d)=>.ok d
 | _=>.no
theorem eVar_at {i:Nat} {ρ:Rho}:aE i ρ=varS ρ[i]?:=by
 unfold aE varS;rfl
def retS:Option Sl->Res Fl
 | some (.own ds)=>.ok (.ret (.f ds))
 | _=>.no
theorem sRetOwn_at {i:Nat} {ρ:Rho}:jD i ρ=retS ρ[i]?:=by
 unfold jD retS;rfl
def nxF (ρ:Rho):Res Fl:=.ok (.nx ρ)
def unpF (g:Gv) (ρ:Rho) (d:D):Res Fl:=(g d ρ).bind nxF
theorem sUnp_at {g:Gv} {f:Ev} {ρ:Rho}:zJJ g f ρ=(f ρ).bind (unpF g ρ):=rfl
def gtF (gs:List D->Rho->Res Rho) (ρ:Rho):D->Res Rho
 | .tup ds=>gs ds ρ
 | _=>.no
theorem gTup_at {gs:List D->Rho->Res Rho} {d:D} {ρ:Rho}:zFT gs d ρ=gtF gs ρ d:=by
 unfold zFT gtF;rfl
theorem gCons_at {g:Gv} {r:List D->Rho->Res Rho} {d:D} {ds:List D} {ρ:Rho}:zAj g r (d::ds) ρ=(g d ρ).bind (r ds):=rfl
theorem gNil_at {ρ:Rho}:zHQ [] ρ=.ok ρ:=rfl
def forF (g:Gv) (b:Sv) (ρ:Rho) (ds:List D):Res Fl:=dX g b ds ρ
theorem sFor_at {it:Fv} {g:Gv} {b:Sv} {ρ:Rho}:zCn it g b ρ=(it ρ).bind (forF g b ρ):=rfl
def zEm:D->Res (List D)
 | .lst ds=>.ok ds
 | .tup ds=>.ok ds
 | _=>.no
theorem seqD_l {ds:List D}:zEm (.lst ds)=.ok ds:=rfl
theorem seqD_t {ds:List D}:zEm (.tup ds)=.ok ds:=rfl
theorem iSeq_at {e:Ev} {ρ:Rho}:zBR e ρ=(e ρ).bind zEm:=by
 unfold zBR;congr
def lstD:D->Res (List D)
 | .lst ds=>.ok ds
 | _=>.no
theorem iLst_at {e:Ev} {ρ:Rho}:zFI e ρ=(e ρ).bind lstD:=by
 unfold zFI;congr
def zGK:List D->Res (List D)
 | [.int j]=>if -(2^62)<=j/\j < 2^62 then .ok (rng 0 j.toNat 1) else .no
 | _=>.no
theorem iRng1_at {a:Fv} {ρ:Rho}:vE a ρ=(a ρ).bind zGK:=rfl
theorem fn_at {p n:Nat} {b:Sv} {ds:List D} (h:ds.length=p):fn p n b ds=(b (start n ds)).bind fin:=by
 unfold fn;rw [if_pos h]
theorem nr {α:Sort _} {a b:α} (h:a=b):a=b:=h
theorem okb {α β:Type} {a:α} {f:α->Res β}:(Res.ok a).bind f=f a:=nr rfl
theorem erb {α β:Type} {c:Str} {f:α->Res β}:(Res.err c).bind f=.err c:=nr rfl
theorem seqF_nx {b:Sv} {ρ:Rho}:wH b (.nx ρ)=b ρ:=nr rfl
theorem seqF_ret {b:Sv} {r:Rt}:wH b (.ret r)=.ok (.ret r):=nr rfl
theorem gtF_t {gs:List D->Rho->Res Rho} {ρ:Rho} {ds:List D}:gtF gs ρ (.tup ds)=gs ds ρ:=nr rfl
theorem ifF_t {a b:Sv} {ρ:Rho}:ifF a b ρ true=a ρ:=nr rfl
theorem ifF_f {a b:Sv} {ρ:Rho}:ifF a b ρ false=b ρ:=nr rfl
theorem eifF_t {a b:Ev} {ρ:Rho}:zIy a b ρ true=a ρ:=nr rfl
theorem eifF_f {a b:Ev} {ρ:Rho}:zIy a b ρ false=b ρ:=nr rfl
theorem andF_t {b:Ev} {ρ:Rho}:zIu b ρ (.bl true)=b ρ:=nr rfl
theorem andF_f {b:Ev} {ρ:Rho}:zIu b ρ (.bl false)=.ok (.bl false):=nr rfl
theorem orF_t {b:Ev} {ρ:Rho}:orF b ρ (.bl true)=.ok (.bl true):=nr rfl
theorem orF_f {b:Ev} {ρ:Rho}:orF b ρ (.bl false)=b ρ:=nr rfl
theorem tandF_t {u:Tv} {ρ:Rho}:zEY u ρ true=u ρ:=nr rfl
theorem tandF_f {u:Tv} {ρ:Rho}:zEY u ρ false=.ok false:=nr rfl
theorem torF_t {u:Tv} {ρ:Rho}:zIQ u ρ true=.ok true:=nr rfl
theorem torF_f {u:Tv} {ρ:Rho}:zIQ u ρ false=u ρ:=nr rfl
theorem tryE_t {i:Nat} {h:Sv} {ρ:Rho} {c:Str}:zFE i h ρ c true=zEp i (h (ρ.set i (.exc c))):=rfl
theorem tryF_ok {tb:List Str} {i:Nat} {h:Sv} {ρ:Rho} {f:Fl}:zIT tb i h ρ (.ok f)=.ok f:=rfl
theorem tryF_err {tb:List Str} {i:Nat} {h:Sv} {ρ:Rho} {c:Str}:zIT tb i h ρ (.err c)=zFE i h ρ c (tb.contains c):=rfl
theorem tryH_nx {i:Nat} {ρ:Rho}:zEp i (.ok (.nx ρ))=.ok (.nx (ρ.set i .un)):=rfl
theorem oAdd_i {i j:Int}:vA (.int i) (.int j)=.ok (.int (i+j)):=rfl
theorem oSub_i {i j:Int}:xI (.int i) (.int j)=.ok (.int (i - j)):=rfl
theorem oMul_i {i j:Int} (h:fI i j=true):pE (.int i) (.int j)=.ok (.int (i * j)):=if_pos h
theorem oDiv_i {i j:Int} (h:gN j=true):lD (.int i) (.int j)=.ok (.int (i.fdiv j)):=if_pos h
theorem oMod_i {i j:Int} (h:j≠0):fS (.int i) (.int j)=.ok (.int (i.fmod j)):=if_pos h
theorem oPow_i {i j:Int} (h:kB i j=true):nD (.int i) (.int j)=.ok (.int (i^j.toNat)):=if_pos h
theorem oEq_i {i j:Int}:oEq (.int i) (.int j)=.ok (.bl (decide (i=j))):=rfl
theorem oNe_i {i j:Int}:oNe (.int i) (.int j)=.ok (.bl (!decide (i=j))):=rfl
theorem oLt_i {i j:Int}:oLt (.int i) (.int j)=.ok (.bl (decide (i < j))):=rfl
theorem oLe_i {i j:Int}:oLe (.int i) (.int j)=.ok (.bl (decide (i<=j))):=rfl
theorem oGt_i {i j:Int}:oGt (.int i) (.int j)=.ok (.bl (decide (j < i))):=rfl
theorem oGe_i {i j:Int}:oGe (.int i) (.int j)=.ok (.bl (decide (j<=i))):=rfl
theorem vD {ds:List D} {i:Int}:oIx (.lst ds) (.int i)=ofO (atD ds i):=rfl
theorem ofO_some {α:Type} {a:α}:ofO (some a)=.ok a:=rfl
theorem oNeg_i {i:Int}:zDr (.int i)=.ok (.int (-i)):=rfl
theorem oNot_b {b:Bool}:zJv (.bl b)=.ok (.bl (!b)):=rfl
theorem bAbs_i {i:Int}:zDB [.int i]=.ok (.int (i.natAbs:Int)):=by
 show Res.ok (D.int (if i < 0 then -i else i))=_
 congr 2;split<;>omega
theorem bMin_i {i j:Int}:zJZ [.int i,.int j]=.ok (.int (min i j)):=by
 show Res.ok (D.int (if j < i then j else i))=_
 congr 2;split<;>omega
theorem zB {j:Int} (h1:-(2^62)<=j) (h2:j < 2^62):zGK [.int j]=.ok (rng 0 j.toNat 1):=if_pos ⟨h1,h2⟩
theorem zAl {α:Type} {g:Gv} {b:Sv} {ds:List D} {ρ:Rho} {k:Fl->Res α} {Q:Res α->Prop} (P:Rho->Prop) (h0:P ρ)
  (st:∀ d ρ,d∈ds->P ρ->∃ ρ2,(g d ρ).bind b=.ok (.nx ρ2)/\P ρ2) (fi:∀ ρ',P ρ'->Q (k (.nx ρ'))):Q ((dX g b ds ρ).bind k):=by
 suffices h:∃ ρ',dX g b ds ρ=.ok (.nx ρ')/\P ρ' by
  obtain ⟨ρ',e,hp⟩:=h
  rw [e]
  exact fi ρ' hp
 clear fi
 induction ds generalizing ρ with
 | nil=>exact ⟨ρ,rfl,h0⟩
 | cons d ds ih=>
  obtain ⟨ρ2,e,hp⟩:=st d ρ List.mem_cons_self h0
  obtain ⟨ρ',e',hp'⟩:=ih hp fun d' ρ' hd=>st d' ρ' (List.mem_cons_of_mem _ hd)
  refine ⟨ρ',?_,hp'⟩
  rw [dX]
  cases hg:g d ρ with
  | no=>rw [hg] at e;cases e
  | err c=>rw [hg] at e;cases e
  | ok ρ1=>
   rw [hg] at e
   have e2:b ρ1=.ok (.nx ρ2):=e
   simp only [Res.bind,e2]
   exact e'
theorem ty_i {i:Int}:tyN (.int i) = "int" := rfl
theorem ty_b {b:Bool}:tyN (.bl b) = "bool" := rfl
theorem ty_t {ds:List D}:tyN (.tup ds) = "tuple" := rfl
theorem ty_l {ds:List D}:tyN (.lst ds) = "list" := rfl
theorem ty_s {x:Str}:tyN (.str x) = "str" := rfl
theorem ty_n:tyN .non = "NoneType" := rfl
theorem bLen_t {ds:List D}:pN [.tup ds]=.ok (.int ds.length):=rfl
theorem bLen_l {ds:List D}:pN [.lst ds]=.ok (.int ds.length):=rfl
theorem bTup_t {ds:List D}:zFJ [.tup ds]=.ok (.tup ds):=rfl
theorem bTup_l {ds:List D}:zFJ [.lst ds]=.ok (.tup ds):=rfl
theorem zAk {α:Type} {g:Gv} {b:Sv} {ds:List D} {ρ:Rho} {k:Fl->Res α} {Q:Res α->Prop} (P:Nat->Rho->Prop) (h0:P 0 ρ)
  (st:∀ i d ρ,ds[i]?=some d->P i ρ->∃ ρ2,(g d ρ).bind b=.ok (.nx ρ2)/\P (i+1) ρ2) (fi:∀ ρ',P ds.length ρ'->Q (k (.nx ρ'))):Q ((dX g b ds ρ).bind k):=by
 suffices h:∀ (ds:List D) (j:Nat) (ρ:Rho),P j ρ->(∀ i d ρ,ds[i]?=some d->P (j+i) ρ->∃ ρ2,(g d ρ).bind b=.ok (.nx ρ2)/\P (j+i+1) ρ2)->∃ ρ',dX g b ds ρ=.ok (.nx ρ')/\P (j+ds.length) ρ' by
  obtain ⟨ρ',e,hp⟩:=h ds 0 ρ h0 (fun i d ρ hd hp=>by rw [Nat.zero_add] at hp ⊢;exact st i d ρ hd hp)
  rw [e]
  exact fi ρ' (by rw [Nat.zero_add] at hp;exact hp)
 intro ds
 induction ds with
 | nil=>intro j ρ hp _;exact ⟨ρ,rfl,hp⟩
 | cons d ds ih=>
  intro j ρ hp st
  obtain ⟨ρ2,e,hp2⟩:=st 0 d ρ rfl hp
  obtain ⟨ρ',e',hp'⟩:=ih (j+1) ρ2 hp2 fun i d' ρ' hd hp=>by
   have:=st (i+1) d' ρ' (by simpa using hd) (by rw [show j+(i+1)=j+1+i by omega];exact hp)
   rw [show j+(i+1)=j+1+i by omega] at this
   exact this
  refine ⟨ρ',?_,by rw [List.length_cons,show j+(ds.length+1)=j+1+ds.length by omega];exact hp'⟩
  rw [dX]
  cases hg:g d ρ with
  | no=>rw [hg] at e;cases e
  | err c=>rw [hg] at e;cases e
  | ok ρ1=>
   rw [hg] at e
   have e2:b ρ1=.ok (.nx ρ2):=e
   simp only [Res.bind,e2]
   exact e'
theorem zDi {lo c:Int} {n i:Nat} {d:D} (h:(rng lo n c)[i]?=some d):i < n/\d=.int (lo+(i:Int) * c):=by
 unfold rng at h
 rw [List.getElem?_map] at h
 by_cases hi:i < n
 ·rw [List.getElem?_range hi] at h
  cases h
  exact ⟨hi,rfl⟩
 ·rw [List.getElem?_eq_none (by rw [List.length_range];omega)] at h
  cases h
theorem zDh {lo c:Int} {n:Nat}:(rng lo n c).length=n:=by unfold rng;rw [List.length_map,List.length_range]
def zFg (t:Tv) (f:Ev) (ρ:Rho) (ds:List D):Res (List D):=if ds.length<=16777215 then dJ t f ρ ds else .no
theorem fComp_at {it:Fv} {t:Tv} {f:Ev} {ρ:Rho}:rB it t f ρ=(it ρ).bind (zFg t f ρ):=rfl
theorem yW {d:D} (h:dep d<=50):oNe d d=.ok (.bl false):=by unfold oNe;rw [if_pos h,mH];rfl
theorem zCK {α:Type} (l:List α) (a:Nat):l.drop (min a l.length)=l.drop a:=by
 rcases Nat.le_total a l.length with h | h
 ·rw [Nat.min_eq_left h]
 ·rw [Nat.min_eq_right h,List.drop_length,List.drop_eq_nil_of_le h]
theorem xC {ds:List D} {a:Int} (h1:0<=a):pJ ds (some a) none=ds.drop a.toNat:=by
 unfold pJ cut
 simp only [h1,if_true]
 rw [zCK,List.take_of_length_le (by rw [List.length_drop];omega)]
theorem zAt {α:Type} {f:α->D} {l:List α} {i:Int} {a:α} (h0:0<=i) (h:l[i.toNat]?=some a):oIx (.lst (l.map f)) (.int i)=.ok (f a):=by
 show ofO (atD (l.map f) i)=_
 unfold atD
 rw [if_pos h0,List.getElem?_map,h]
 rfl
theorem oIx_tc {d:D} {ds:List D} {i:Int}:oIx (.tup (d::ds)) (.int i)=ofO (atD (d::ds) i):=rfl
theorem zEJ {α:Type} {f:α->D} {l:List α} {i:Int} {a:α} (h0:0<=i) (h:l[i.toNat]?=some a):oIx (.tup (l.map f)) (.int i)=.ok (f a):=by
 show ofO (atD (l.map f) i)=_
 unfold atD
 rw [if_pos h0,List.getElem?_map,h]
 rfl
def zIk (ds:List D):D->Res (List D)
 | .int k=>if 0<=k/\k < 2^62/\ds.length * k.toNat<=16777216 then .ok (List.replicate k.toNat ds).flatten else .no
 | _=>.no
def repF (g:Ev) (ρ:Rho) (ds:List D):Res (List D):=(g ρ).bind (zIk ds)
theorem fRep_at {f:Fv} {g:Ev} {ρ:Rho}:zFF f g ρ=(f ρ).bind (repF g ρ):=by
 unfold zFF repF;congr
theorem yX {d:D} {k:Nat} (h:k<=16777216):zIk [d] (.int (k:Int))=.ok (List.replicate k d):=by
 have e:∀ n,(List.replicate n [d]).flatten=List.replicate n d:=by
  intro n
  induction n with
  | zero=>rfl
  | succ n ih=>rw [List.replicate_succ,List.flatten_cons,ih];rfl
 unfold zIk
 dsimp only
 rw [if_pos ⟨by omega,by omega,by simp only [List.length_cons,List.length_nil,Int.toNat_natCast];omega⟩,Int.toNat_natCast,e]
theorem zBn {α:Type} {u:α->D} {f:Ev} {ρ:Rho} {g:α->D}:∀ {l:List α},(∀ a∈l,f (ρ++[.val (u a)])=.ok (g a))->dJ vI f ρ (l.map u)=.ok (l.map g)
 | [],_=>rfl
 | a::l,h=>by
  rw [List.map_cons,dJ,h a List.mem_cons_self]
  simp only [vI,noErr,Res.bind,if_true]
  rw [zBn fun b hb=>h b (List.mem_cons_of_mem _ hb)]
  rfl
theorem wF {α:Type} {u:α->D} {f:Ev} {ρ:Rho} {g:α->D} {l:List α} (hl:l.length<=16777215) (h:∀ a∈l,f (ρ++[.val (u a)])=.ok (g a)):zFg vI f ρ (l.map u)=.ok (l.map g):=by
 unfold zFg;rw [if_pos (by rw [List.length_map];exact hl),zBn h]
theorem bSum_l {ns:List Int}:rY [.lst (ns.map D.int)]=.ok (.int ns.sum):=by
 have e:∀ ns:List Int,fQ (ns.map D.int)=some ns:=by
  intro ns
  induction ns with
  | nil=>rfl
  | cons i ns ih=>rw [List.map_cons,fQ,ih]
 show (match fQ (ns.map D.int) with | some ns=>Res.ok (D.int ns.sum) | none=>.no)=_
 rw [e]
theorem bSum_t {ns:List Int}:rY [.tup (ns.map D.int)]=.ok (.int ns.sum):=by
 have e:∀ ns:List Int,fQ (ns.map D.int)=some ns:=by
  intro ns
  induction ns with
  | nil=>rfl
  | cons i ns ih=>rw [List.map_cons,fQ,ih]
 show (match fQ (ns.map D.int) with | some ns=>Res.ok (D.int ns.sum) | none=>.no)=_
 rw [e]
def slI (i:Nat) (ρ:Rho):Int:=match ρ[i]? with
 | some (.val (.int x))=>x
 | _=>0
theorem chO_s {c:Nat}:chO (some c)=.ok (.str ⟨#[c]⟩):=rfl
theorem zHi {x:Str}:dep (.str x)<=50:=by simp [dep]
theorem oEq_s {x y:Str}:oEq (.str x) (.str y)=.ok (.bl (x==y)):=by
 unfold oEq;rw [if_pos zHi,eqD]
theorem oNe_s {x y:Str}:oNe (.str x) (.str y)=.ok (.bl (!(x==y))):=by
 unfold oNe;rw [if_pos zHi,eqD]
theorem fU {g:Gv} {b:Sv} {d:D} {ds:List D} {ρ ρ1 ρ2:Rho} (hg:g d ρ=.ok ρ1) (hb:b ρ1=.ok (.nx ρ2)):dX g b (d::ds) ρ=dX g b ds ρ2:=by
 rw [dX]
 simp only [hg,Res.bind,hb]
theorem oTabNot_s {T:List (Str×Str)} {x:Str}:lC T (.str x)=.ok (.bl (!(T.lookup x).isSome)):=rfl
def zJe:List D->Res (List D)
 | [x,y]=>match zBM x,zBM y with
  | some xs,some ys=>.ok (jF xs ys)
  | _,_=>.no
 | _=>.no
theorem iZip_at {a:Fv} {ρ:Rho}:zHl a ρ=(a ρ).bind zJe:=by
 unfold zHl;congr
theorem rK {x y:D} {xs ys:List D} (hx:zBM x=some xs) (hy:zBM y=some ys):zJe [x,y]=.ok (jF xs ys):=by
 show (match zBM x,zBM y with | some xs,some ys=>Res.ok (jF xs ys) | _,_=>.no)=_
 rw [hx,hy]
def zP (f:Ev) (ρ:Rho) (ds:List D):Res (List D):=if ds.length<=16777215 then dN f ρ ds else .no
theorem fComp2_at {it:Fv} {f:Ev} {ρ:Rho}:qB it f ρ=(it ρ).bind (zP f ρ):=rfl
theorem wT {α β:Type} {u:α->D} {v:β->D} {f:Ev} {ρ:Rho} {g:α->β->D}:∀ {l:List α} {m:List β},(∀ p∈l.zip m,f (ρ++[.val (u p.1),.val (v p.2)])=.ok (g p.1 p.2))->
  dN f ρ (jF (l.map u) (m.map v))=.ok ((l.zip m).map fun p=>g p.1 p.2)
 | [],m,h=>by cases m<;>rfl
 | a::l,[],h=>rfl
 | a::l,b::m,h=>by
  have h1:=h (a,b) List.mem_cons_self
  have h2:=wT (l:=l) (m:=m) (u:=u) (v:=v) (g:=g) fun p hp=>h p (List.mem_cons_of_mem _ hp)
  show (noErr (f (ρ++[.val (u a),.val (v b)]))).bind (fun e=>(dN f ρ (jF (l.map u) (m.map v))).bind fun es=>.ok (e::es))=_
  rw [h1,h2]
  rfl
theorem jK {α β:Type} {u:α->D} {v:β->D} {f:Ev} {ρ:Rho} {g:α->β->D} {l:List α} {m:List β} (hl:l.length<=16777215) (h:∀ p∈l.zip m,f (ρ++[.val (u p.1),.val (v p.2)])=.ok (g p.1 p.2)):
  zP f ρ (jF (l.map u) (m.map v))=.ok ((l.zip m).map fun p=>g p.1 p.2):=by
 unfold zP
 rw [if_pos,wT h]
 have:∀ (a b:List D),(jF a b).length<=a.length:=by
  intro a
  induction a with
  | nil=>intro b;cases b<;>exact Nat.le_refl _
  | cons x a ih=>intro b;cases b with
   | nil=>exact Nat.zero_le _
   | cons y b=>exact Nat.succ_le_succ (ih b)
 exact Nat.le_trans (this _ _) (by rw [List.length_map];exact hl)
end L3
namespace Ln
open Fq
abbrev Pt:=Rat×Rat
def asc (a b:Pt):Prop:=a.1 < b.1/\a.2<=b.2
def btw (a b c:Pt):Bool:=decide ((b.2 - a.2) * (c.1 - b.1)=(c.2 - b.2) * (b.1 - a.1))
def push:List Pt->Pt->List Pt
 | b::a::s,c=>if btw a b c=true then c::a::s else c::b::a::s
 | s,c=>c::s
def Ok (ps:List Pt):Prop:=ps.head?=some (0,0)/\ps.Pairwise asc
theorem lt_iff {p q:Rat}:p.num * q.den < q.num * p.den ↔ p < q:=Rat.lt_iff p q |>.symm
def ax:Bool->Pt->Rat
 | false,p=>p.1
 | true,p=>p.2
end Ln
namespace L3
open PySem PySem.Spec PyProof.Rows L2
abbrev St:=L2.St
mutual
inductive IsD (K:PySem.W.Frag) (H:Hp):V->D->Prop where
 | non:IsD K H .non .non
 | bl (b:Bool):IsD K H (.bl b) (.bl b)
 | int (i:Int):IsD K H (.int i) (.int i)
 | str (x:Str):IsD K H (.str x) (.str x)
 | tup {a:Addr} {xs:List V} {ds:List D}:SqT K H a xs->IsDs K H xs ds->IsD K H (.ref a) (.tup ds)
 | lst {a:Addr} {xs:List V} {ds:List D}:SqL K H a xs->IsDs K H xs ds->IsD K H (.ref a) (.lst ds)
inductive IsDs (K:PySem.W.Frag) (H:Hp):List V->List D->Prop where
 | nil:IsDs K H [] []
 | cons {v:V} {d:D} {vs:List V} {ds:List D}:IsD K H v d->IsDs K H vs ds->IsDs K H (v::vs) (d::ds)
end
theorem _root_.L2.Same.rd {H H':Hp} (e:Same H H') {a:Addr} {u:HO} (h:Rd H a u):Rd H' a u:=by
 rcases h with h | ⟨o,h⟩
 ·exact .inl (e _ _ h)
 ·exact .inr ⟨o,e _ _ h⟩
theorem bY {K:PySem.W.Frag} {H H':Hp} (e:Same H H') {a:Addr} {xs:List V} (h:SqT K H a xs):SqT K H' a xs:=h.imp (Same.rd e) id
theorem bC {K:PySem.W.Frag} {H H':Hp} (e:Same H H') {a:Addr} {xs:List V} (h:SqL K H a xs):SqL K H' a xs:=h.imp (Same.rd e) id
section
variable {K:PySem.W.Frag} {H H':Hp}
mutual
theorem IsD.mono (e:Same H H'):∀ {v:V} {d:D},IsD K H v d->IsD K H' v d
 | _,_,.non=>.non
 | _,_,.bl b=>.bl b
 | _,_,.int i=>.int i
 | _,_,.str x=>.str x
 | _,_,.tup h hs=>.tup (bY e h) (IsDs.mono e hs)
 | _,_,.lst h hs=>.lst (bC e h) (IsDs.mono e hs)
theorem IsDs.mono (e:Same H H'):∀ {vs:List V} {ds:List D},IsDs K H vs ds->IsDs K H' vs ds
 | _,_,.nil=>.nil
 | _,_,.cons h hs=>.cons (IsD.mono e h) (IsDs.mono e hs)
end
theorem IsDs.length:∀ {vs:List V} {ds:List D},IsDs K H vs ds->vs.length=ds.length
 | _,_,.nil=>rfl
 | _,_,.cons _ hs=>by rw [List.length_cons,List.length_cons,IsDs.length hs]
theorem IsDs.at:∀ {vs:List V} {ds:List D} {j:Nat} {d:D},IsDs K H vs ds->ds[j]?=some d->∃ v,vs[j]?=some v/\IsD K H v d
 | _,_,_,_,.nil,e=>by simp at e
 | _,_,0,_,.cons r _,e=>by simp at e;subst e;exact ⟨_,rfl,r⟩
 | _,_,j+1,d,.cons _ t,e=>by
  obtain ⟨v,h1,h2⟩:=IsDs.at (j:=j) (d:=d) t (by simpa using e)
  exact ⟨v,by simpa using h1,h2⟩
theorem IsDs.append:∀ {vs ws:List V} {ds es:List D},IsDs K H vs ds->IsDs K H ws es->IsDs K H (vs++ws) (ds++es)
 | _,_,_,_,.nil,s=>s
 | _,_,_,_,.cons r t,s=>.cons r (IsDs.append t s)
theorem IsDs.take:∀ {vs:List V} {ds:List D} (n:Nat),IsDs K H vs ds->IsDs K H (vs.take n) (ds.take n)
 | _,_,0,_=>.nil
 | _,_,_+1,.nil=>.nil
 | _,_,n+1,.cons r t=>.cons r (IsDs.take n t)
theorem IsDs.drop:∀ {vs:List V} {ds:List D} (n:Nat),IsDs K H vs ds->IsDs K H (vs.drop n) (ds.drop n)
 | _,_,0,r=>r
 | _,_,_+1,.nil=>.nil
 | _,_,n+1,.cons _ t=>IsDs.drop n t
theorem IsDs.set {v:V} {d:D} (h:IsD K H v d):∀ {vs:List V} {ds:List D} (j:Nat),IsDs K H vs ds->IsDs K H (vs.set j v) (ds.set j d)
 | _,_,_,.nil=>.nil
 | _,_,0,.cons _ t=>.cons h t
 | _,_,j+1,.cons q t=>.cons q (IsDs.set h j t)
mutual
theorem IsD.noL (k:∀ b xs,Rd H b (.tup xs)->Rd H' b (.tup xs)):∀ {v:V} {d:D},IsD K H v d->L3.noL d=true->IsD K H' v d
 | _,_,.non,_=>.non
 | _,_,.bl b,_=>.bl b
 | _,_,.int i,_=>.int i
 | _,_,.str x,_=>.str x
 | _,_,.tup h hs,e=>.tup (h.imp (k _ _) id) (IsDs.noL k hs (by rw [L3.noL] at e;exact e))
 | _,_,.lst h hs,e=>by rw [L3.noL] at e;cases e
theorem IsDs.noL (k:∀ b xs,Rd H b (.tup xs)->Rd H' b (.tup xs)):∀ {vs:List V} {ds:List D},IsDs K H vs ds->L3.noLs ds=true->IsDs K H' vs ds
 | _,_,.nil,_=>.nil
 | _,_,.cons h hs,e=>by
  rw [L3.noLs,Bool.and_eq_true] at e
  exact .cons (IsD.noL k h e.1) (IsDs.noL k hs e.2)
end
end
theorem IsD.intI {K:PySem.W.Frag} {H:Hp} {v:V} {i:Int} (h:IsD K H v (.int i)):v=.int i:=by cases h;rfl
theorem IsD.blI {K:PySem.W.Frag} {H:Hp} {v:V} {b:Bool} (h:IsD K H v (.bl b)):v=.bl b:=by cases h;rfl
theorem IsD.strI {K:PySem.W.Frag} {H:Hp} {v:V} {x:Str} (h:IsD K H v (.str x)):v=.str x:=by cases h;rfl
theorem IsD.tupI {K:PySem.W.Frag} {H:Hp} {v:V} {ds:List D} (h:IsD K H v (.tup ds)):∃ a xs,v=.ref a/\SqT K H a xs/\IsDs K H xs ds:=by
 cases h with
 | tup h hs=>exact ⟨_,_,rfl,h,hs⟩
theorem IsD.lstI {K:PySem.W.Frag} {H:Hp} {v:V} {ds:List D} (h:IsD K H v (.lst ds)):∃ a xs,v=.ref a/\SqL K H a xs/\IsDs K H xs ds:=by
 cases h with
 | lst h hs=>exact ⟨_,_,rfl,h,hs⟩
def lU:Str := "ranked.<locals>.<lambda>"
def sD (P:Addr) (H:Hp):Prop:=∃ ps,H P=some (.tbl ps)/\TriplesOk ps.toList/\∀ (pos:Pos) (cv:Value),codeAmong pos ps.toList=some cv->∃ c oc vs t u,cv=.ref c/\H c=some (.frz oc u)/\oc.data=.fields vs/\vs[1]?=some (.str lU t)
theorem sD.put {P a:Addr} {H:Hp} {x:HO} (h:sD P H) (h1:∀ ps,H a≠some (.tbl ps)) (h2:∀ o u,H a≠some (.frz o u)):sD P (upd H a x):=by
 obtain ⟨ps,e,t,k⟩:=h
 refine ⟨ps,by rw [aO (show P≠a from fun z=>h1 ps (by rw [<-z];exact e))];exact e,t,fun pos cv q=>?_⟩
 obtain ⟨c,oc,vs,tk,u,r1,r2,r3⟩:=k pos cv q
 exact ⟨c,oc,vs,tk,u,r1,by rw [aO (show c≠a from fun z=>h2 oc u (by rw [<-z];exact r2))];exact r2,r3⟩
structure Keep (H H':Hp):Prop where
 k:∀ b o,H b=some o->H' b=some o∨∃ ps ps',o=.tbl ps/\H' b=some (.tbl ps')
 t:∀ P,sD P H->sD P H'
theorem Keep.refl (H:Hp):Keep H H:=⟨fun _ _ e=>.inl e,fun _ e=>e⟩
theorem Keep.trans {H H1 H2:Hp} (a:Keep H H1) (b:Keep H1 H2):Keep H H2:=
 ⟨fun c o e=>by
  rcases a.k c o e with z | ⟨ps,ps',rfl,z⟩
  ·exact b.k c o z
  ·rcases b.k c _ z with y | ⟨qs,qs',_,y⟩
   ·exact .inr ⟨ps,ps',rfl,y⟩
   ·exact .inr ⟨ps,qs',rfl,y⟩,fun P e=>b.t P (a.t P e)⟩
theorem Keep.at {H H':Hp} (k:Keep H H') {b:Addr} {o:HO} (e:H b=some o) (ho:∀ ps,o≠.tbl ps:=by intro ps z;cases z):H' b=some o:=by
 rcases k.k b o e with z | ⟨ps,ps',z,_⟩
 ·exact z
 ·exact absurd z (ho ps)
theorem Keep.none {H H':Hp} (k:Keep H H') {p:Addr} (e:H' p=none):H p=none:=by
 cases z:H p with
 | none=>rfl
 | some o=>rcases k.k p o z with y | ⟨_,_,_,y⟩<;>(rw [y] at e;cases e)
structure Ext (Hi H Hi' H':Hp):Prop where
 i:Same Hi Hi'
 h:Keep H H'
 s:Same Hi' H'
 n:∀ b,Hi b=none->Hi' b≠none->H b=none
theorem Ext.refl {Hi H:Hp} (h:Same Hi H):Ext Hi H Hi H:=⟨Same.refl _,Keep.refl _,h,fun _ e q=>absurd e q⟩
theorem Ext.trans {Hi H Hi1 H1 Hi2 H2:Hp} (a:Ext Hi H Hi1 H1) (b:Ext Hi1 H1 Hi2 H2):Ext Hi H Hi2 H2:=
 ⟨a.i.trans b.i,a.h.trans b.h,b.s,fun c e q=>by
  cases z:Hi1 c with
  | some o=>exact a.n c e (by rw [z];exact fun w=>by cases w)
  | none=>
   have z2:=b.n c z q
   exact a.h.none z2⟩
theorem cA {H:Hp} {p:Addr} (h:H p=none) (o:HO):Same H (upd H p o):=fun b u q=>by rw [aO (aR q h)];exact q
theorem vY {H:Hp} {p:Addr} (h:H p=none) (o:HO):Keep H (upd H p o):=⟨fun b u q=>.inl (cA h o b u q),fun P e=>e.put (fun ps z=>by rw [h] at z;cases z) (fun ob u z=>by rw [h] at z;cases z)⟩
theorem _root_.L2.Same.none {H H':Hp} (h:Same H H') {p:Addr} (e:H' p=none):H p=none:=by
 cases z:H p with
 | none=>rfl
 | some o=>rw [h _ _ z] at e;cases e
theorem Ext.new {Hi H:Hp} {p:Addr} {o:HO} (h:Same Hi H) (hp:H p=none):Ext Hi H (upd Hi p o) (upd H p o) where
 i:=cA (h.none hp) o
 h:=vY hp o
 s:=fun b u q=>by
  by_cases e:b=p
  ·subst e;rw [aH] at q ⊢;exact q
  ·rw [aO e] at q ⊢;exact h _ _ q
 n:=fun b e q=>by
  by_cases z:b=p
  ·rw [z];exact hp
  ·rw [aO z] at q;exact absurd e q
theorem Ext.newF {Hi H:Hp} {p:Addr} {o:HO} (h:Same Hi H) (hp:H p=none):Ext Hi H Hi (upd H p o) where
 i:=Same.refl _
 h:=vY hp o
 s:=h.trans (cA hp o)
 n:=fun b e q=>absurd e q
theorem Ext.out {Hi H Hi' H':Hp} (e:Ext Hi H Hi' H') {a:Addr} {o:HO} (h:H a=some o) (hi:Hi a=none) (ho:∀ ps,o≠.tbl ps:=by intro ps z;cases z):H' a=some o/\Hi' a=none:=by
 refine ⟨e.h.at h ho,?_⟩
 cases z:Hi' a with
 | none=>rfl
 | some u=>have:=e.n a hi (by rw [z];exact fun w=>by cases w);rw [h] at this;cases this
theorem Ext.hold {Hi H Hi' H':Hp} (e:Ext Hi H Hi' H') {a:Addr} {o:HO} (hn:H a=none) (h:H' a=some o) (hi:Hi' a=none):Ext Hi H (upd Hi' a o) H' where
 i:=e.i.trans (cA hi o)
 h:=e.h
 s:=fun b u q=>by
  by_cases z:b=a
  ·subst z;rw [aH] at q;cases q;exact h
  ·rw [aO z] at q;exact e.s _ _ q
 n:=fun b z q=>by
  by_cases w:b=a
  ·rw [w];exact hn
  ·rw [aO w] at q;exact e.n b z q
def lR (a C:Addr):Heap->Prop:=fun h=>∃ o vs,h.get? a=some o/\o.cls=.ref C/\o.data=.fields vs/\vs[2]?=some .none
def kvT (T:List (Str×Str)):List (Key×V):=T.map fun q=>(Sum.inr q.1,V.str q.2)
inductive Flds (K:PySem.W.Frag) (Hi:Hp):List (Str×V)->List (Str×D)->Prop where
 | nil:Flds K Hi [] []
 | cons {f:Str} {v:V} {d:D} {hs:List (Str×V)} {fs:List (Str×D)}:IsD K Hi v d->Flds K Hi hs fs->Flds K Hi ((f,v)::hs) ((f,d)::fs)
theorem Flds.mono {K:PySem.W.Frag} {H H':Hp} (e:Same H H'):∀ {hs:List (Str×V)} {fs:List (Str×D)},Flds K H hs fs->Flds K H' hs fs
 | _,_,.nil=>.nil
 | _,_,.cons h r=>.cons (h.mono e) (Flds.mono e r)
def wI (K:PySem.W.Frag) (mg:Str->Option Value) (B Hi H:Hp) (o:Option (Option V)):Sl->Prop
 | .un=>True
 | .val d=>∃ v,o=some (some v)/\IsD K Hi v d
 | .own ds=>∃ a xs,o=some (some (.ref a))/\H a=some (.lst xs)/\Hi a=none/\B a=none/\IsDs K Hi xs ds
 | .exc c=>∃ a C,o=some (some (.ref a))/\H a=some (.ext (lR a C))/\Hi a=none/\True/\mg c=some (.ref C)
 | .tab T=>∃ a,o=some (some (.ref a))/\Hi a=some (.dK (kvT T))
 | .ins c fs=>∃ a C dx hs,o=some (some (.ref a))/\Hi a=some (.ins C dx hs)/\mg c=some (.ref C)/\Flds K Hi hs fs
structure Rel (K:PySem.W.Frag) (mg:Str->Option Value) (B Bi Hi H:Hp) (σ:St) (ρ:Rho):Prop where
 len:σ.length=ρ.length
 ext:Ext Bi B Hi H
 slot:∀ (i:Nat) (s:Sl),ρ[i]?=some s->wI K mg B Hi H σ[i]? s
 dist:∀ (i j:Nat) (a:Addr) (ds es:List D),ρ[i]?=some (.own ds)->ρ[j]?=some (.own es)->σ[i]?=some (some (.ref a))->σ[j]?=some (some (.ref a))->i=j
section
variable {K:PySem.W.Frag} {mg:Str->Option Value} {B Bi Hi H Hi' H':Hp} {σ:St} {ρ:Rho}
theorem wI.ext {o:Option (Option V)} {s:Sl} (h:wI K mg B Hi H o s) (e:Ext Hi H Hi' H'):wI K mg B Hi' H' o s:=by
 cases s with
 | un=>trivial
 | val d=>obtain ⟨v,q,r⟩:=h;exact ⟨v,q,r.mono e.i⟩
 | own ds=>
  obtain ⟨a,xs,q,h1,h2,h3,h4⟩:=h
  obtain ⟨e1,e2⟩:=e.out h1 h2
  exact ⟨a,xs,q,e1,e2,h3,h4.mono e.i⟩
 | exc c=>
  obtain ⟨a,C,q,h1,h2,h3,h4⟩:=h
  obtain ⟨e1,e2⟩:=e.out h1 h2
  exact ⟨a,C,q,e1,e2,h3,h4⟩
 | tab T=>obtain ⟨a,q,h1⟩:=h;exact ⟨a,q,e.i _ _ h1⟩
 | ins c fs=>obtain ⟨a,C,dx,hs,q,h1,h2,h3⟩:=h;exact ⟨a,C,dx,hs,q,e.i _ _ h1,h2,h3.mono e.i⟩
theorem Rel.grow (R:Rel K mg B Bi Hi H σ ρ) (e:Ext Hi H Hi' H'):Rel K mg B Bi Hi' H' σ ρ:=⟨R.len,R.ext.trans e,fun i s q=>(R.slot i s q).ext e,R.dist⟩
theorem Rel.s (R:Rel K mg B Bi Hi H σ ρ):Same Hi H:=R.ext.s
theorem Rel.set {i:Nat} {v:V} {d:D} (R:Rel K mg B Bi Hi H σ ρ) (h:IsD K Hi v d):Rel K mg B Bi Hi H (σ.set i (some v)) (ρ.set i (.val d)) where
 len:=by rw [List.length_set,List.length_set];exact R.len
 ext:=R.ext
 slot:=fun j s q=>by
  by_cases e:i=j
  ·subst e
   by_cases hl:i < ρ.length
   ·rw [List.getElem?_set_self hl] at q;cases q
    exact ⟨v,by rw [List.getElem?_set_self (by rw [R.len];exact hl)],h⟩
   ·rw [List.getElem?_eq_none (by rw [List.length_set];omega)] at q;cases q
  ·rw [List.getElem?_set_ne e] at q ⊢
   exact R.slot j s q
 dist:=fun j k a ds es q1 q2 q3 q4=>by
  have h1:∀ {j:Nat} {ds:List D},(ρ.set i (.val d))[j]?=some (.own ds)->i≠j:=fun {j ds} q e=>by
   subst e
   by_cases hl:i < ρ.length
   ·rw [List.getElem?_set_self hl] at q;cases q
   ·rw [List.getElem?_eq_none (by rw [List.length_set];omega)] at q;cases q
  have n1:=h1 q1
  have n2:=h1 q2
  rw [List.getElem?_set_ne n1] at q1 q3
  rw [List.getElem?_set_ne n2] at q2 q4
  exact R.dist j k a ds es q1 q2 q3 q4
theorem Rel.setOwn {i:Nat} {a:Addr} {xs:List V} {ds:List D} (R:Rel K mg B Bi Hi H σ ρ) (e:Ext Hi H Hi' H') (hn:H a=none) (h:H' a=some (.lst xs)) (hi:Hi' a=none) (hs:IsDs K Hi' xs ds):
  Rel K mg B Bi Hi' H' (σ.set i (some (.ref a))) (ρ.set i (.own ds)) where
 len:=by rw [List.length_set,List.length_set];exact R.len
 ext:=R.ext.trans e
 slot:=fun j s q=>by
  by_cases z:i=j
  ·subst z
   by_cases hl:i < ρ.length
   ·rw [List.getElem?_set_self hl] at q;cases q
    exact ⟨a,xs,by rw [List.getElem?_set_self (by rw [R.len];exact hl)],h,hi,R.ext.h.none hn,hs⟩
   ·rw [List.getElem?_eq_none (by rw [List.length_set];omega)] at q;cases q
  ·rw [List.getElem?_set_ne z] at q ⊢
   exact (R.slot j s q).ext e
 dist:=fun j k b es fs q1 q2 q3 q4=>by
  have h1:∀ {j:Nat} {es:List D},i≠j->ρ[j]?=some (.own es)->σ[j]?=some (some (.ref a))->False:=fun {j es} _ p1 p2=>by
   obtain ⟨a',xs',q,h1,_⟩:=R.slot j _ p1
   rw [p2] at q
   cases q
   rw [hn] at h1;cases h1
  have h2:∀ {j:Nat} {es:List D},(ρ.set i (.own ds))[j]?=some (.own es)->i < σ.length∨i≠j:=fun {j es} p=>by
   by_cases z:i=j
   ·subst z
    by_cases hl:i < ρ.length
    ·exact .inl (by rw [R.len];exact hl)
    ·rw [List.getElem?_eq_none (by rw [List.length_set];omega)] at p;cases p
   ·exact .inr z
  by_cases z1:i=j
  ·by_cases z2:i=k
   ·rw [<-z1,<-z2]
   ·exfalso
    subst z1
    have hl:i < σ.length:=(h2 q1).resolve_right (fun w=>w rfl)
    rw [List.getElem?_set_self hl] at q3;cases q3
    rw [List.getElem?_set_ne z2] at q2 q4
    exact h1 z2 q2 q4
  ·by_cases z2:i=k
   ·exfalso
    subst z2
    have hl:i < σ.length:=(h2 q2).resolve_right (fun w=>w rfl)
    rw [List.getElem?_set_self hl] at q4;cases q4
    rw [List.getElem?_set_ne z1] at q1 q3
    exact h1 z1 q1 q3
   ·rw [List.getElem?_set_ne z1] at q1 q3
    rw [List.getElem?_set_ne z2] at q2 q4
    exact R.dist j k b es fs q1 q2 q3 q4
theorem Rel.write {i:Nat} {a:Addr} {ys:List V} {ds es:List D} (R:Rel K mg B Bi Hi H σ ρ) (e:ρ[i]?=some (.own ds)) (ea:σ[i]?=some (some (.ref a))) (hs:IsDs K Hi ys es):
  Rel K mg B Bi Hi (upd H a (.lst ys)) σ (ρ.set i (.own es)):=by
 obtain ⟨a',xs',q,h1,h2,h3,h4⟩:=R.slot i _ e
 rw [ea] at q
 cases q
 have hl:i < ρ.length:=by
  by_cases hl:i < ρ.length
  ·exact hl
  ·rw [List.getElem?_eq_none (by omega)] at e;cases e
 refine ⟨by rw [List.length_set];exact R.len,⟨R.ext.i,⟨fun b o z=>?_,fun P z=>(R.ext.h.t P z).put (fun ps y=>by rw [h1] at y;cases y) (fun ob u y=>by rw [h1] at y;cases y)⟩,fun b o z=>?_,R.ext.n⟩,fun j s z=>?_,fun j k b fs gs q1 q2 q3 q4=>?_⟩
 ·rw [aO (aR z h3)];exact R.ext.h.k _ _ z
 ·rw [aO (aR z h2)];exact R.ext.s _ _ z
 ·by_cases w:i=j
  ·subst w
   rw [List.getElem?_set_self hl] at z;cases z
   exact ⟨a,ys,ea,aH,h2,h3,hs⟩
  ·rw [List.getElem?_set_ne w] at z
   have S:=R.slot j s z
   cases s with
   | un=>trivial
   | val d=>exact S
   | own fs=>
    obtain ⟨b,zs,p,g1,g2,g3,g4⟩:=S
    have hb:b≠a:=fun c=>w (R.dist i j a ds fs e z ea (by rw [p,c]))
    exact ⟨b,zs,p,by rw [aO hb];exact g1,g2,g3,g4⟩
   | exc c=>
    obtain ⟨b,C,p,g1,g2,g3,g4⟩:=S
    have hb:b≠a:=zGQ g1 h1 (by intro z;cases z)
    exact ⟨b,C,p,by rw [aO hb];exact g1,g2,g3,g4⟩
   | tab T=>exact S
   | ins c fs=>exact S
 ·have own:∀ {j:Nat} {fs:List D},(ρ.set i (.own es))[j]?=some (.own fs)->∃ gs,ρ[j]?=some (.own gs):=fun {j fs} p=>by
   by_cases w:i=j
   ·subst w;exact ⟨ds,e⟩
   ·rw [List.getElem?_set_ne w] at p;exact ⟨fs,p⟩
  obtain ⟨fs',q1'⟩:=own q1
  obtain ⟨gs',q2'⟩:=own q2
  exact R.dist j k b fs' gs' q1' q2' q3 q4
theorem Rel.frzAt {i:Nat} (R:Rel K mg B Bi Hi H σ ρ):∃ Hi',Same Hi Hi'/\Rel K mg B Bi Hi' H σ (L3.frzAt i ρ):=by
 unfold L3.frzAt
 split
 ·rename_i ds e
  obtain ⟨a,xs,q,h1,h2,h3,h4⟩:=R.slot i _ e
  have hl:i < ρ.length:=by
   by_cases hl:i < ρ.length
   ·exact hl
   ·rw [List.getElem?_eq_none (by omega)] at e;cases e
  have sm:Same Hi (upd Hi a (.lst xs)):=cA h2 _
  have ss:Same (upd Hi a (.lst xs)) H:=fun b u z=>by
   by_cases w:b=a
   ·subst w;rw [aH] at z;cases z;exact h1
   ·rw [aO w] at z;exact R.s _ _ z
  refine ⟨upd Hi a (.lst xs),sm,by rw [List.length_set];exact R.len,⟨R.ext.i.trans sm,R.ext.h,ss,fun b z w=>?_⟩,fun j s z=>?_,fun j k b fs gs q1 q2 q3 q4=>?_⟩
  ·by_cases c:b=a
   ·rw [c];exact h3
   ·rw [aO c] at w;exact R.ext.n b z w
  ·by_cases w:i=j
   ·subst w
    rw [List.getElem?_set_self hl] at z;cases z
    exact ⟨.ref a,q,.lst (SqL.of aH) (h4.mono sm)⟩
   ·rw [List.getElem?_set_ne w] at z
    have S:=R.slot j s z
    cases s with
    | un=>trivial
    | val d=>obtain ⟨v,p,r⟩:=S;exact ⟨v,p,r.mono sm⟩
    | own fs=>
     obtain ⟨b,zs,p,g1,g2,g3,g4⟩:=S
     have hb:b≠a:=fun c=>w (R.dist i j a ds fs e z q (by rw [p,c]))
     exact ⟨b,zs,p,g1,by rw [aO hb];exact g2,g3,g4.mono sm⟩
    | exc c=>
     obtain ⟨b,C,p,g1,g2,g3,g4⟩:=S
     have hb:b≠a:=zGQ g1 h1 (by intro z;cases z)
     exact ⟨b,C,p,g1,by rw [aO hb];exact g2,g3,g4⟩
    | tab T=>obtain ⟨b,p,g1⟩:=S;exact ⟨b,p,sm _ _ g1⟩
    | ins c fs=>obtain ⟨b,C,dx,hs,p,g1,g2,g3⟩:=S;exact ⟨b,C,dx,hs,p,sm _ _ g1,g2,g3.mono sm⟩
  ·have own:∀ {j:Nat} {fs:List D},(ρ.set i (.val (.lst ds)))[j]?=some (.own fs)->ρ[j]?=some (.own fs):=fun {j fs} p=>by
    by_cases w:i=j
    ·subst w;rw [List.getElem?_set_self hl] at p;cases p
    ·rw [List.getElem?_set_ne w] at p;exact p
   exact R.dist j k b fs gs (own q1) (own q2) q3 q4
 ·exact ⟨Hi,Same.refl _,R⟩
end
end L3
namespace L3
open PySem PySem.Spec PyProof.Rows L2
section
variable {K:PySem.W.Frag} {mg:Str->Option Value} {B Bi Hi H Hi' H':Hp} {σ:St} {ρ:Rho}
theorem Rel.frz (R:Rel K mg B Bi Hi H σ ρ):∃ Hf,Same Hi Hf/\Rel K mg B Bi Hf H σ (ρ.map Sl.frz)/\∀ b,Hi b=none->Hf b≠none->∃ xs,Hf b=some (.lst xs):=by
 let own:Addr->Prop:=fun b=>∃ (i:Nat) (ds:List D),ρ[i]?=some (.own ds)/\σ[i]?=some (some (.ref b))
 have dec:∀ b,Decidable (own b):=fun b=>Classical.propDecidable _
 let Hf:Hp:=fun b=>match Hi b with
  | some o=>some o
  | none=>if own b then H b else none
 have hf1:∀ b o,Hi b=some o->Hf b=some o:=fun b o e=>by show (match Hi b with | some o=>some o | none=>if own b then H b else none)=_;rw [e]
 have hf2:∀ b,Hi b=none->own b->Hf b=H b:=fun b e z=>by show (match Hi b with | some o=>some o | none=>if own b then H b else none)=_;rw [e];exact if_pos z
 have hf3:∀ b,Hi b=none->¬ own b->Hf b=none:=fun b e z=>by show (match Hi b with | some o=>some o | none=>if own b then H b else none)=_;rw [e];exact if_neg z
 have lst:∀ b,own b->∃ xs,H b=some (.lst xs)/\Hi b=none/\B b=none:=fun b ⟨i,ds,e1,e2⟩=>by
  obtain ⟨a,xs,q,h1,h2,h3,h4⟩:=R.slot i _ e1
  rw [e2] at q;cases q
  exact ⟨xs,h1,h2,h3⟩
 have ss:Same Hf H:=fun b o z=>by
  cases q:Hi b with
  | some u=>rw [hf1 b u q] at z;cases z;exact R.s _ _ q
  | none=>
   by_cases w:own b
   ·rw [hf2 b q w] at z;exact z
   ·rw [hf3 b q w] at z;cases z
 refine ⟨Hf,hf1,⟨by rw [List.length_map];exact R.len,⟨R.ext.i.trans hf1,R.ext.h,ss,fun b z w=>?_⟩,fun j s z=>?_,fun j k b fs gs q1 q2 q3 q4=>?_⟩,fun b z w=>?_⟩
 ·cases q:Hi b with
  | some u=>exact R.ext.n b z (by rw [q];exact fun c=>by cases c)
  | none=>
   by_cases c:own b
   ·exact (lst b c).choose_spec.2.2
   ·exact absurd (hf3 b q c) w
 ·rw [List.getElem?_map] at z
  cases e:ρ[j]? with
  | none=>rw [e] at z;cases z
  | some t=>
   rw [e] at z
   cases z
   have S:=R.slot j t e
   cases t with
   | un=>trivial
   | val d=>obtain ⟨v,p,r⟩:=S;exact ⟨v,p,r.mono hf1⟩
   | own ds=>
    obtain ⟨a,xs,q,h1,h2,h3,h4⟩:=S
    exact ⟨.ref a,q,.lst (SqL.of (by rw [hf2 a h2 ⟨j,ds,e,q⟩];exact h1)) (h4.mono hf1)⟩
   | exc c=>
    obtain ⟨a,C,q,h1,h2,h3,h4⟩:=S
    refine ⟨a,C,q,h1,?_,h3,h4⟩
    refine hf3 a h2 fun c=>?_
    obtain ⟨xs,g,_⟩:=lst a c
    rw [h1] at g;cases g
   | tab T=>obtain ⟨a,q,h1⟩:=S;exact ⟨a,q,hf1 _ _ h1⟩
   | ins c fs=>obtain ⟨a,C,dx,hs,q,h1,h2,h3⟩:=S;exact ⟨a,C,dx,hs,q,hf1 _ _ h1,h2,h3.mono hf1⟩
 ·exfalso
  rw [List.getElem?_map] at q1
  cases e:ρ[j]? with
  | none=>rw [e] at q1;cases q1
  | some t=>rw [e] at q1;cases t<;>cases q1
 ·by_cases c:own b
  ·obtain ⟨xs,g,_⟩:=lst b c
   exact ⟨xs,by rw [hf2 b z c];exact g⟩
  ·exact absurd (hf3 b z c) w
theorem Ext.thaw {Hf:Hp} (s:Same Hi Hf) (fl:∀ b,Hi b=none->Hf b≠none->∃ xs,Hf b=some (.lst xs)) (hs:Same Hf H) (e:Ext Hf H Hi' H'):
  ∃ Ht,Ext Hi H Ht H'/\(∀ b xs,Rd Hi' b (.tup xs)->Rd Ht b (.tup xs))/\Same Ht Hi'/\∀ b,Ht b=none->Hi' b=none∨∃ xs,H b=some (.lst xs):=by
 have dec:∀ b,Decidable (Hi b=none/\Hf b≠none):=fun b=>Classical.propDecidable _
 let Ht:Hp:=fun b=>if Hi b=none/\Hf b≠none then none else Hi' b
 have t1:∀ b,¬ (Hi b=none/\Hf b≠none)->Ht b=Hi' b:=fun b z=>if_neg z
 have t2:∀ b,(Hi b=none/\Hf b≠none)->Ht b=none:=fun b z=>if_pos z
 have tt:Same Ht Hi':=fun b o z=>by
  by_cases w:Hi b=none/\Hf b≠none
  ·rw [t2 b w] at z;cases z
  ·rw [t1 b w] at z;exact z
 refine ⟨Ht,⟨fun b o z=>?_,e.h,tt.trans e.s,fun b z w=>?_⟩,fun b xs r=>?_,tt,fun b z=>?_⟩
 ·rw [t1 b (fun w=>by rw [z] at w;cases w.1)];exact e.i _ _ (s _ _ z)
 ·by_cases c:Hi b=none/\Hf b≠none
  ·exact absurd (t2 b c) w
  ·rw [t1 b c] at w
   have:Hf b=none:=by
    cases q:Hf b with
    | none=>rfl
    | some u=>exact absurd ⟨z,by rw [q];exact fun c=>by cases c⟩ c
   exact e.n b this w
 ·have nl:¬ (Hi b=none/\Hf b≠none):=fun w=>by
   obtain ⟨ys,g⟩:=fl b w.1 w.2
   have g':=e.i _ _ g
   rcases r with r | ⟨o,r⟩<;>(rw [g'] at r;cases r)
  rcases r with r | ⟨o,r⟩
  ·exact .inl (by rw [t1 b nl];exact r)
  ·exact .inr ⟨o,by rw [t1 b nl];exact r⟩
 ·by_cases c:Hi b=none/\Hf b≠none
  ·obtain ⟨ys,g⟩:=fl b c.1 c.2
   exact .inr ⟨ys,hs _ _ g⟩
  ·exact .inl (by rw [t1 b c] at z;exact z)
end
structure Gx where
 B:Hp
 Bi:Hp
 E:Str->Hp->Prop
abbrev fN (X:Cx) (G:Gx) (Hi H:Hp) (σ:St) (ρ:Rho):Prop:=Rel X.K X.mg G.B G.Bi Hi H σ ρ
def Out (G:Gx) (Hi H:Hp) {α:Type} (r:Res α) (k:α->Hp->Hp->Prop):Prop:=match r with
 | .ok a=>∀ Hi' H',Ext Hi H Hi' H'->k a Hi' H'
 | .err c=>∀ Hi' H',Ext Hi H Hi' H'->G.E c H'
 | .no=>False
theorem Out.bind {G:Gx} {Hi H:Hp} {α β:Type} {r:Res α} {f:α->Res β} {k:β->Hp->Hp->Prop} (h:Out G Hi H (r.bind f) k):
  Out G Hi H r fun a Hi' H'=>Out G Hi' H' (f a) k:=by
 cases r with
 | no=>exact h
 | err c=>exact h
 | ok a=>
  intro Hi1 H1 e
  have h':Out G Hi H (f a) k:=h
  show Out G Hi1 H1 (f a) k
  cases q:f a with
  | no=>rw [q] at h';exact h'
  | err c=>rw [q] at h';exact fun Hi2 H2 e2=>h' _ _ (e.trans e2)
  | ok b=>rw [q] at h';exact fun Hi2 H2 e2=>h' _ _ (e.trans e2)
theorem Out.imp {G:Gx} {Hi H:Hp} {α:Type} {r:Res α} {k k':α->Hp->Hp->Prop} (h:Out G Hi H r k) (f:∀ a Hi' H',Ext Hi H Hi' H'->k a Hi' H'->k' a Hi' H'):Out G Hi H r k':=by
 cases r with
 | no=>exact h
 | err c=>exact h
 | ok a=>exact fun Hi1 H1 e=>f a Hi1 H1 e (h Hi1 H1 e)
theorem Out.here {G:Gx} {Hi H:Hp} {α:Type} {a:α} {k:α->Hp->Hp->Prop} (h:Out G Hi H (.ok a) k) (s:Same Hi H):k a Hi H:=h Hi H (Ext.refl s)
def tD (X:Cx) (G:Gx) (f:Ev):TE:=fun σ H Q=>∃ ρ Hi,fN X G Hi H σ ρ/\Out G Hi H (f ρ) fun d Hi' H'=>∀ v,IsD X.K Hi' v d->Q v H'
def zAJ (K:PySem.W.Frag) (H Hi' H':Hp) (a:Addr) (ds:List D):Prop:=H a=none/\Hi' a=none/\∃ xs,H' a=some (.lst xs)/\IsDs K Hi' xs ds
def tF (X:Cx) (G:Gx) (f:Fv):TE:=fun σ H Q=>∃ ρ Hi,fN X G Hi H σ ρ/\Out G Hi H (f ρ) fun ds Hi' H'=>∀ a,zAJ X.K H Hi' H' a ds->Q (.ref a) H'
def tTb (X:Cx) (G:Gx) (f:Tv):TT:=fun σ H Q=>∃ ρ Hi,fN X G Hi H σ ρ/\Out G Hi H (f ρ) fun b _ H'=>Q b H'
def tAs (X:Cx) (G:Gx) (f:Fv):TA:=fun σ H Q=>∃ ρ Hi,fN X G Hi H σ ρ/\Out G Hi H (f ρ) fun ds Hi' H'=>∀ vs,IsDs X.K Hi' vs ds->Q vs H'
def Fin (X:Cx) (G:Gx) (Hi:Hp) (E:Ends) (r:Res Fl):Prop:=match r with
 | .ok (.nx ρ')=>∀ σ' Hi' H',Same Hi Hi'->fN X G Hi' H' σ' ρ'->E.nx σ' H'
 | .ok (.brk ρ')=>∀ σ' Hi' H',Same Hi Hi'->fN X G Hi' H' σ' ρ'->E.bk σ' H'
 | .ok (.ctn ρ')=>∀ σ' Hi' H',Same Hi Hi'->fN X G Hi' H' σ' ρ'->E.ct σ' H'
 | .ok (.ret (.v d))=>∀ v Hi' H',Ext G.Bi G.B Hi' H'->IsD X.K Hi' v d->E.rt v H'
 | .ok (.ret (.f ds))=>∀ a Hi' H',Ext G.Bi G.B Hi' H'->zAJ X.K G.B Hi' H' a ds->E.rt (.ref a) H'
 | .err c=>∀ Hi' H',Ext G.Bi G.B Hi' H'->G.E c H'
 | .no=>False
theorem Fin.mono {X:Cx} {G:Gx} {Hi Hi':Hp} {E:Ends} {r:Res Fl} (h:Fin X G Hi E r) (s:Same Hi Hi'):Fin X G Hi' E r:=by
 cases r with
 | no=>exact h
 | err c=>exact h
 | ok f=>
  cases f with
  | nx ρ=>exact fun σ' Hi2 H2 s2=>h σ' Hi2 H2 (s.trans s2)
  | brk ρ=>exact fun σ' Hi2 H2 s2=>h σ' Hi2 H2 (s.trans s2)
  | ctn ρ=>exact fun σ' Hi2 H2 s2=>h σ' Hi2 H2 (s.trans s2)
  | ret r=>cases r<;>exact h
def tS (X:Cx) (G:Gx) (f:Sv):TS:=fun E σ H=>∃ ρ Hi,fN X G Hi H σ ρ/\Fin X G Hi E (f ρ)
@[irreducible] def PEd (X:Cx) (G:Gx) (e:Expr) (f:Ev):Prop:=PE X e (tD X G f)
unseal PEd
@[irreducible] def PEf (X:Cx) (G:Gx) (e:Expr) (f:Fv):Prop:=PE X e (tF X G f)
unseal PEf
@[irreducible] def PTd (X:Cx) (G:Gx) (e:Expr) (f:Tv):Prop:=PT X e (tTb X G f)
unseal PTd
@[irreducible] def PWd (X:Cx) (G:Gx) (e:Expr) (f:Tv):Prop:=PW X e (tTb X G f)
unseal PWd
@[irreducible] def PAd (X:Cx) (G:Gx) (es:List Expr) (f:Fv):Prop:=PA X es (tAs X G f)
unseal PAd
@[irreducible] def PSd (X:Cx) (G:Gx) (s:Stmt) (f:Sv):Prop:=PS X s (tS X G f)
unseal PSd
@[irreducible] def cI (X:Cx) (G:Gx) (s:List Stmt) (f:Sv):Prop:=PSs X s (tS X G f)
unseal cI
theorem PE.wk {X:Cx} {e:Expr} {t t':TE} (h:PE X e t) (w:∀ σ H Q,t' σ H Q->t σ H Q):PE X e t':=fun pins s σ H Q I q=>h pins s σ H Q I (w σ H Q q)
theorem PT.wk {X:Cx} {e:Expr} {t t':TT} (h:PT X e t) (w:∀ σ H Q,t' σ H Q->t σ H Q):PT X e t':=fun pins s σ H Q I q=>h pins s σ H Q I (w σ H Q q)
theorem PW.wk {X:Cx} {e:Expr} {t t':TT} (h:PW X e t) (w:∀ σ H Q,t' σ H Q->t σ H Q):PW X e t':=fun wh pins s σ H Q I q=>h wh pins s σ H Q I (w σ H Q q)
theorem PA.wk {X:Cx} {es:List Expr} {t t':TA} (h:PA X es t) (w:∀ σ H Q,t' σ H Q->t σ H Q):PA X es t':=fun pos pins s σ H Q I q=>h pos pins s σ H Q I (w σ H Q q)
theorem PS.wk {X:Cx} {s:Stmt} {t t':TS} (h:PS X s t) (w:∀ E σ H,t' E σ H->t E σ H):PS X s t':=fun pins s σ H E I q=>h pins s σ H E I (w E σ H q)
theorem PSs.wk {X:Cx} {s:List Stmt} {t t':TS} (h:PSs X s t) (w:∀ E σ H,t' E σ H->t E σ H):PSs X s t':=fun pins s σ H E I q=>h pins s σ H E I (w E σ H q)
section
variable {X:Cx} {G:Gx} {a b e:Expr} {es:List Expr} {pos:Pos} {f g:Ev}
theorem zGW (i:Nat) (h:PE X e (uY i)):PEd X G e (aE i):=PE.wk h fun σ H Q q=>by
 obtain ⟨ρ,Hi,R,o⟩:=q
 unfold aE at o
 cases z:ρ[i]? with
 | none=>rw [z] at o;exact o.elim
 | some s=>
  rw [z] at o
  cases s with
  | val d=>
   obtain ⟨v,p,r⟩:=R.slot i _ z
   exact ⟨v,p,o.here R.s v r⟩
  | un=>exact o.elim
  | own ds=>exact o.elim
  | exc c=>exact o.elim
  | tab T=>exact o.elim
  | ins c fs=>exact o.elim
theorem fO {v:V} {d:D} (h:PE X e (tC v)) (r:∀ H,IsD X.K H v d):PEd X G e (eC d):=PE.wk h fun σ H Q q=>by
 obtain ⟨ρ,Hi,R,o⟩:=q
 exact o.here R.s v (r Hi)
theorem rQ {Hi H:Hp} {σ:St} {ρ:Rho} {β:Type} {k:D->Res β} {k':β->Hp->Hp->Prop} {Q:VK} (R:fN X G Hi H σ ρ) (o:Out G Hi H ((f ρ).bind k) k')
  (w:∀ v d Hi' H',Ext Hi H Hi' H'->fN X G Hi' H' σ ρ->IsD X.K Hi' v d->Out G Hi' H' (k d) k'->Q v H'):tD X G f σ H Q:=
 ⟨ρ,Hi,R,o.bind.imp fun d Hi' H' e q v r=>w v d Hi' H' e (R.grow e) r q⟩
def OpK (X:Cx) (r:R2) (o:Op2):Prop:=(∀ a b c,o a b≠.err c)/\∀ (Hi H:Hp) (x y:V) (a b d:D) (Q:VK),Same Hi H->IsD X.K Hi x a->IsD X.K Hi y b->o a b=.ok d->
 (∀ v Hi' H',Ext Hi H Hi' H'->IsD X.K Hi' v d->Q v H')->r x y H Q
theorem op2 {r:R2} {o:Op2} (k:OpK X r o):∀ σ H Q,tD X G (eOp o f g) σ H Q->tOp r (tD X G f) (tD X G g) σ H Q:=fun σ H Q q=>by
 obtain ⟨ρ,Hi,R,ou⟩:=q
 refine rQ R ou fun v d Hi1 H1 e1 R1 r1 o1=>?_
 refine rQ R1 o1 fun w d' Hi2 H2 e2 R2 r2 o2=>?_
 cases z:o d d' with
 | no=>rw [z] at o2;exact o2.elim
 | err c=>exact absurd z (k.1 d d' c)
 | ok u=>
  rw [z] at o2
  exact k.2 Hi2 H2 v w d d' u Q R2.s (r1.mono e2.i) r2 z fun x Hi3 H3 e3 r3=>o2 Hi3 H3 e3 x r3
theorem aM {op:Operator} {r:R2} {o:Op2} (ho:OpR X (binaryOp op) r) (k:OpK X r o) (ha:PEd X G a f) (hb:PEd X G b g):PEd X G (.BinOp a op b pos) (eOp o f g):=PE.wk (zBz ho ha hb) (op2 k)
theorem lO {op:CmpOp} {r:R2} {o:Op2} (ho:OpR X (compareOp op) r) (k:OpK X r o) (ha:PEd X G a f) (hb:PEd X G b g) (hm:behindInMarks op b=false):PEd X G (.Compare a [op] [b] pos) (eOp o f g):=PE.wk (zDH ho ha hb hm) (op2 k)
theorem jY {r:R2} {o:Op2} (ho:IxR X r) (k:OpK X r o) (ha:PEd X G a f) (hb:PEd X G b g) (hs:uI b):PEd X G (.Subscript a b pos) (eOp o f g):=PE.wk (xX ho ha hb hs) (op2 k)
theorem tst {op:CmpOp} {r:R2} {o:Op2} (ho:OpR X (compareOp op) r) (k:OpK X r o) (ha:PEd X G a f) (hb:PEd X G b g) (hm:behindInMarks op b=false):PTd X G (.Compare a [op] [b] pos) (dM (eOp o f g)):=
 PT.wk (zBe ho ha hb hm) fun σ H Q q=>by
  obtain ⟨ρ,Hi,R,ou⟩:=q
  refine op2 k σ H _ ⟨ρ,Hi,R,ou.bind.imp fun d Hi' H' e o v r=>?_⟩
  cases d with
  | bl c=>rw [r.blI];exact ⟨c,rfl,o.here e.s⟩
  | _=>exact o.elim
theorem zHb (h:PEd X G a f) (he:∀ whole,isTrue a X.env whole=(do let v <-whole;standAt a.pos;holding [v] (truthy v)):=by intro _;rfl):PTd X G a (dM f):=PT.wk (zHd h he) fun σ H Q q=>by
 obtain ⟨ρ,Hi,R,ou⟩:=q
 refine ⟨ρ,Hi,R,ou.bind.imp fun d Hi' H' e o v r=>?_⟩
 cases d with
 | bl c=>rw [r.blI];exact ⟨c,rfl,o.here e.s⟩
 | _=>exact o.elim
variable {t u:Tv}
theorem zHY {Hi H:Hp} {σ:St} {ρ:Rho} {β:Type} {k:Bool->Res β} {k':β->Hp->Hp->Prop} {Q:Bool->Hp->Prop} (R:fN X G Hi H σ ρ) (o:Out G Hi H ((t ρ).bind k) k')
  (w:∀ c Hi' H',Ext Hi H Hi' H'->fN X G Hi' H' σ ρ->Out G Hi' H' (k c) k'->Q c H'):tTb X G t σ H Q:=
 ⟨ρ,Hi,R,o.bind.imp fun d Hi' H' e q=>w d Hi' H' e (R.grow e) q⟩
theorem zKc (h:PTd X G a t):PTd X G (.UnaryOp .Not a pos) (zDO t):=PT.wk (zGM h) fun σ H Q q=>by
 obtain ⟨ρ,Hi,R,ou⟩:=q
 exact zHY R ou fun c Hi1 H1 e1 R1 o1=>o1.here R1.s
theorem sG (h:PTd X G a t):PWd X G (.BoolOp .And [a] pos) t:=zEN h
theorem zAx (h:PTd X G a t):PWd X G (.BoolOp .Or [a] pos) t:=zFO h
theorem zAK {rest:List Expr} (ha:PTd X G a t) (hb:PWd X G (.BoolOp .And (b::rest) pos) u):PWd X G (.BoolOp .And (a::b::rest) pos) (sK t u):=PW.wk (zFN ha hb) fun σ H Q q=>by
 obtain ⟨ρ,Hi,R,ou⟩:=q
 refine zHY R ou fun c Hi1 H1 e1 R1 o1=>?_
 cases c with
 | true=>exact ⟨ρ,Hi1,R1,o1⟩
 | false=>exact o1.here R1.s
theorem zFv {rest:List Expr} (ha:PTd X G a t) (hb:PWd X G (.BoolOp .Or (b::rest) pos) u):PWd X G (.BoolOp .Or (a::b::rest) pos) (zBK t u):=PW.wk (zIH ha hb) fun σ H Q q=>by
 obtain ⟨ρ,Hi,R,ou⟩:=q
 refine zHY R ou fun c Hi1 H1 e1 R1 o1=>?_
 cases c with
 | true=>exact o1.here R1.s
 | false=>exact ⟨ρ,Hi1,R1,o1⟩
theorem PWd.pt {e:Expr} (h:PWd X G e t):PTd X G e t:=PW.pt h
theorem zDt {op} (h:PEd X G a f):PEd X G (.BoolOp op [a] pos) f:=zFM h
theorem zHc {rest:List Expr} (ha:PEd X G a f) (hb:PEd X G (.BoolOp .Or (b::rest) pos) g):PEd X G (.BoolOp .Or (a::b::rest) pos) (eOr f g):=PE.wk (zIK ha hb) fun σ H Q q=>by
 obtain ⟨ρ,Hi,R,ou⟩:=q
 refine rQ R ou fun v d Hi1 H1 e1 R1 r1 o1=>?_
 cases d with
 | bl c=>
  refine ⟨c,r1.blI,?_⟩
  cases c with
  | true=>exact o1.here R1.s _ (.bl true)
  | false=>exact ⟨ρ,Hi1,R1,o1⟩
 | _=>exact o1.elim
theorem pL (ha:PEd X G a f):PEd X G (.UnaryOp .USub a pos) (eUn zDr f):=PE.wk (zIj zGU ha) fun σ H Q q=>by
 obtain ⟨ρ,Hi,R,ou⟩:=q
 refine rQ R ou fun v d Hi1 H1 e1 R1 r1 o1=>?_
 cases d with
 | int c=>exact ⟨c,r1.intI,o1.here R1.s _ (.int _)⟩
 | _=>exact o1.elim
theorem zGe {c:Expr} (hc:PTd X G c t) (ha:PEd X G a f) (hb:PEd X G b g):PEd X G (.IfExp c a b pos) (eIf t f g):=PE.wk (zCG hc ha hb) fun σ H Q q=>by
 obtain ⟨ρ,Hi,R,ou⟩:=q
 refine zHY R ou fun c Hi1 H1 e1 R1 o1=>?_
 cases c with
 | true=>exact ⟨ρ,Hi1,R1,o1⟩
 | false=>exact ⟨ρ,Hi1,R1,o1⟩
variable {fs:Fv}
theorem aN:PAd X G [] aNil:=PA.wk gJ fun σ H Q q=>by
 obtain ⟨ρ,Hi,R,ou⟩:=q
 exact ou.here R.s [] .nil
theorem aA (ha:PEd X G e f) (hr:PAd X G es fs) (hs:starEach (e::es) X.env=(false,eval e X.env)::starEach es X.env:=by rfl):PAd X G (e::es) (aB f fs):=PA.wk (dE ha hr hs) fun σ H Q q=>by
 obtain ⟨ρ,Hi,R,ou⟩:=q
 refine rQ R ou fun v d Hi1 H1 e1 R1 r1 o1=>?_
 refine ⟨ρ,Hi1,R1,o1.bind.imp fun ds Hi2 H2 e2 o2 vs rs=>?_⟩
 exact o2.here e2.s _ (.cons (r1.mono e2.i) rs)
theorem zBP {Hi H:Hp} {σ:St} {ρ:Rho} {β:Type} {k:List D->Res β} {k':β->Hp->Hp->Prop} {Q:List V->Hp->Prop} (R:fN X G Hi H σ ρ) (o:Out G Hi H ((fs ρ).bind k) k')
  (w:∀ vs ds Hi' H',Ext Hi H Hi' H'->fN X G Hi' H' σ ρ->IsDs X.K Hi' vs ds->Out G Hi' H' (k ds) k'->Q vs H'):tAs X G fs σ H Q:=
 ⟨ρ,Hi,R,o.bind.imp fun d Hi' H' e q v r=>w v d Hi' H' e (R.grow e) r q⟩
theorem nX {x1} (h:PAd X G es fs):PEd X G (.Tuple es x1 pos) (zCI fs):=PE.wk (zDC h) fun σ H Q q=>by
 obtain ⟨ρ,Hi,R,ou⟩:=q
 refine zBP R ou fun vs ds Hi1 H1 e1 R1 r1 o1=>?_
 by_cases hz:ds.length<=16777216
 ·rw [if_pos hz] at o1
  refine ⟨by rw [r1.length];exact hz,fun p hp=>?_⟩
  exact o1 _ _ (Ext.new R1.s hp) (.ref p) (.tup (SqT.of aH) (r1.mono (cA (R1.s.none hp) _)))
 ·rw [if_neg hz] at o1;exact o1.elim
theorem bT (h:PAd X G es fs):PEf X G (.List es pos) (iE fs):=PE.wk (zGx h) fun σ H Q q=>by
 obtain ⟨ρ,Hi,R,ou⟩:=q
 refine zBP R ou fun vs ds Hi1 H1 e1 R1 r1 o1=>?_
 by_cases hz:ds.length<=16777216
 ·rw [if_pos hz] at o1
  refine ⟨by rw [r1.length];exact hz,fun p hp=>?_⟩
  exact o1 _ _ (Ext.newF R1.s hp) p ⟨e1.h.none hp,R1.s.none hp,vs,aH,r1⟩
 ·rw [if_neg hz] at o1;exact o1.elim
theorem PEf.d (h:PEf X G e fs):PEd X G e (eF fs):=PE.wk h fun σ H Q q=>by
 obtain ⟨ρ,Hi,R,ou⟩:=q
 refine ⟨ρ,Hi,R,?_⟩
 cases z:fs ρ with
 | no=>unfold eF at ou;rw [z] at ou;exact ou
 | err c=>unfold eF at ou;rw [z] at ou;exact ou
 | ok ds=>
  unfold eF at ou;rw [z] at ou
  intro Hi1 H1 e1 a n
  obtain ⟨n1,n2,xs,n3,n4⟩:=n
  have ou':∀ Hi' H',Ext Hi H Hi' H'->∀ v,IsD X.K Hi' v (.lst ds)->Q v H':=ou
  exact ou' _ _ (e1.hold n1 n3 n2) (.ref a) (.lst (SqL.of aH) (n4.mono (cA n2 _)))
theorem PEd.frz (h:PEd X G e f):PEd X G e (zGC f):=PE.wk h fun σ H Q q=>by
 obtain ⟨ρ,Hi,R,ou⟩:=q
 obtain ⟨Hf,s1,R1,fl⟩:=R.frz
 refine ⟨ρ.map Sl.frz,Hf,R1,?_⟩
 unfold zGC at ou
 cases z:f (ρ.map Sl.frz) with
 | no=>rw [z] at ou;exact ou
 | err c=>
  rw [z] at ou
  intro Hi1 H1 e1
  have ou':∀ Hi' H',Ext Hi H Hi' H'->G.E c H':=ou
  obtain ⟨Ht,e2,k,s2,n⟩:=Ext.thaw s1 fl R1.s e1
  exact ou' Ht H1 e2
 | ok d=>
  rw [z] at ou
  by_cases hz:noL d=true
  ·have ou':Out G Hi H (if noL d=true then Res.ok d else .no) _:=ou
   rw [if_pos hz] at ou'
   intro Hi1 H1 e1 v r
   obtain ⟨Ht,e2,k,s2,n⟩:=Ext.thaw s1 fl R1.s e1
   exact ou' Ht H1 e2 v (r.noL k hz)
  ·have ou':Out G Hi H (if noL d=true then Res.ok d else .no) _:=ou
   rw [if_neg hz] at ou';exact ou'.elim
end
end L3
namespace L3
open PySem PySem.Spec PyProof.Rows L2
unseal PEd PEf PTd PWd PAd PSd cI
section
variable {X:Cx} {G:Gx} {a b e:Expr} {es:List Expr} {pos:Pos} {f g:Ev} {fs:Fv} {t u:Tv}
theorem OpR.or {o:Value->Value->Sem Value} {r r':R2} (h:OpR X o r) (h':OpR X o r'):OpR X o (fun x y H Q=>r x y H Q∨r' x y H Q):=by
 intro pins s σ H x y v u Q I rx ry q
 rcases q with q | q
 ·exact h pins s σ H x y v u Q I rx ry q
 ·exact h' pins s σ H x y v u Q I rx ry q
theorem zFZ {o:Op2} {h:Int->Int->Int} (hi:∀ i j,o (.int i) (.int j)=.ok (.int (h i j))) (hn:∀ a b d,o a b=.ok d->∃ i j,a=.int i/\b=.int j) (he:∀ a b c,o a b≠.err c):OpK X (rI0 fun i j=>.int (h i j)) o:=
 ⟨he,fun Hi H x y a b d Q s r1 r2 z q=>by
  obtain ⟨i,j,rfl,rfl⟩:=hn a b d z
  rw [hi] at z;cases z
  exact ⟨i,j,r1.intI,r2.intI,q _ Hi H (Ext.refl s) (.int _)⟩⟩
theorem zDA {o:Op2} {h:Int->Int->Bool} (hi:∀ i j,o (.int i) (.int j)=.ok (.bl (h i j))) (hn:∀ a b d,o a b=.ok d->∃ i j,a=.int i/\b=.int j) (he:∀ a b c,o a b≠.err c):OpK X (rI0 fun i j=>.bl (h i j)) o:=
 ⟨he,fun Hi H x y a b d Q s r1 r2 z q=>by
  obtain ⟨i,j,rfl,rfl⟩:=hn a b d z
  rw [hi] at z;cases z
  exact ⟨i,j,r1.intI,r2.intI,q _ Hi H (Ext.refl s) (.bl _)⟩⟩
theorem zCu:OpK X (rI0 fun i j=>.int (i - j)) xI:=zFZ (fun _ _=>rfl) (fun a b d z=>by unfold xI at z;split at z<;>first | exact ⟨_,_,rfl,rfl⟩ | cases z) (fun a b c z=>by unfold xI at z;split at z<;>cases z)
theorem zDk:OpK X (rI0 fun i j=>.bl (decide (i < j))) oLt:=zDA (fun _ _=>rfl) (fun a b d z=>by unfold oLt at z;split at z<;>first | exact ⟨_,_,rfl,rfl⟩ | cases z) (fun a b c z=>by unfold oLt at z;split at z<;>cases z)
theorem zHU:OpK X (rI0 fun i j=>.bl (decide (j < i))) oGt:=zDA (fun _ _=>rfl) (fun a b d z=>by unfold oGt at z;split at z<;>first | exact ⟨_,_,rfl,rfl⟩ | cases z) (fun a b c z=>by unfold oGt at z;split at z<;>cases z)
theorem zBT {o:Op2} {C:Int->Int->Prop} {h:Int->Int->Int} (hn:∀ a b d,o a b=.ok d->∃ i j,a=.int i/\b=.int j/\C i j/\d=.int (h i j)) (he:∀ a b c,o a b≠.err c):OpK X (rI C fun i j=>.int (h i j)) o:=
 ⟨he,fun Hi H x y a b d Q s r1 r2 z q=>by
  obtain ⟨i,j,rfl,rfl,hc,rfl⟩:=hn a b d z
  exact ⟨i,j,r1.intI,r2.intI,hc,q _ Hi H (Ext.refl s) (.int _)⟩⟩
def zGh (i j:Int):Prop:=fI i j=true
theorem cU:OpR X (binaryOp .Mult) (rI zGh fun i j=>.int (i * j)):=opI fun i j _ _ _ _ _ hc q=>by
 have hc':fI i j=true:=hc
 unfold fI at hc'
 simp only [Bool.or_eq_true,Bool.and_eq_true,decide_eq_true_eq] at hc'
 rcases hc' with (⟨h1,h2⟩ | ⟨h1,h2⟩) | h
 ·exact mul_int q (zHR.ok (.inl ⟨h1,h2⟩))
 ·exact mul_int q (zHR.ok (.inr ⟨h1,h2⟩))
 ·exact mul_int q (PySem.IntMulOk.of_le (PySem.intBits_le_iff.mpr (zFb i)) (PySem.intBits_le_iff.mpr (zFb j)) h)
def zGq (_ j:Int):Prop:=gN j=true
theorem bM:OpR X (binaryOp .FloorDiv) (rI zGq fun i j=>.int (i.fdiv j)):=opI fun i j _ _ _ _ _ hc q=>by
 have hc':gN j=true:=hc
 unfold gN at hc'
 simp only [Bool.and_eq_true,decide_eq_true_eq] at hc'
 refine floordiv_int hc'.1 q (.inl (PyProof.noPylong_of_log2 ?_))
 have h2:=hc'.2
 unfold nb at h2
 omega
def zHz (i j:Int):Prop:=kB i j=true
theorem cX:OpR X (binaryOp .Pow) (rI zHz fun i j=>.int (i^j.toNat)):=opI fun i j _ _ _ _ _ hc q=>by
 have hc':kB i j=true:=hc
 unfold kB at hc'
 simp only [Bool.and_eq_true,decide_eq_true_eq] at hc'
 refine pow_int hc'.1 (Int.le_trans (Int.mul_le_mul_of_nonneg_right ?_ hc'.1) hc'.2) q
 have:=PySem.intBits_le_iff.mpr (zFb i)
 omega
theorem iL:OpK X (rI zGh fun i j=>.int (i * j)) pE:=zBT (fun a b d z=>by
 unfold pE at z
 split at z
 case h_2=>cases z
 rename_i i j
 have z':(if fI i j=true then Res.ok (D.int (i * j)) else .no)=.ok d:=z
 by_cases h:fI i j=true
 ·rw [if_pos h] at z';cases z';exact ⟨i,j,rfl,rfl,h,rfl⟩
 ·rw [if_neg h] at z';cases z') (fun a b c z=>by
 unfold pE at z
 split at z
 case h_2=>cases z
 rename_i i j
 have z':(if fI i j=true then Res.ok (D.int (i * j)) else .no)=.err c:=z
 by_cases h:fI i j=true
 ·rw [if_pos h] at z';cases z'
 ·rw [if_neg h] at z';cases z')
theorem eS:OpK X (rI zGq fun i j=>.int (i.fdiv j)) lD:=zBT (fun a b d z=>by
 unfold lD at z
 split at z
 case h_2=>cases z
 rename_i i j
 have z':(if gN j=true then Res.ok (D.int (i.fdiv j)) else .no)=.ok d:=z
 by_cases h:gN j=true
 ·rw [if_pos h] at z';cases z';exact ⟨i,j,rfl,rfl,h,rfl⟩
 ·rw [if_neg h] at z';cases z') (fun a b c z=>by
 unfold lD at z
 split at z
 case h_2=>cases z
 rename_i i j
 have z':(if gN j=true then Res.ok (D.int (i.fdiv j)) else .no)=.err c:=z
 by_cases h:gN j=true
 ·rw [if_pos h] at z';cases z'
 ·rw [if_neg h] at z';cases z')
theorem cT:OpK X (rI (fun _ j=>j≠0) fun i j=>.int (i.fmod j)) fS:=zBT (fun a b d z=>by
 unfold fS at z
 split at z
 case h_2=>cases z
 rename_i i j
 have z':(if j≠0 then Res.ok (D.int (i.fmod j)) else .no)=.ok d:=z
 by_cases h:j≠0
 ·rw [if_pos h] at z';cases z';exact ⟨i,j,rfl,rfl,h,rfl⟩
 ·rw [if_neg h] at z';cases z') (fun a b c z=>by
 unfold fS at z
 split at z
 case h_2=>cases z
 rename_i i j
 have z':(if j≠0 then Res.ok (D.int (i.fmod j)) else .no)=.err c:=z
 by_cases h:j≠0
 ·rw [if_pos h] at z';cases z'
 ·rw [if_neg h] at z';cases z')
theorem gU:OpK X (rI zHz fun i j=>.int (i^j.toNat)) nD:=zBT (fun a b d z=>by
 unfold nD at z
 split at z
 case h_2=>cases z
 rename_i i j
 have z':(if kB i j=true then Res.ok (D.int (i^j.toNat)) else .no)=.ok d:=z
 by_cases h:kB i j=true
 ·rw [if_pos h] at z';cases z';exact ⟨i,j,rfl,rfl,h,rfl⟩
 ·rw [if_neg h] at z';cases z') (fun a b c z=>by
 unfold nD at z
 split at z
 case h_2=>cases z
 rename_i i j
 have z':(if kB i j=true then Res.ok (D.int (i^j.toNat)) else .no)=.err c:=z
 by_cases h:kB i j=true
 ·rw [if_pos h] at z';cases z'
 ·rw [if_neg h] at z';cases z')
def zFR (K:PySem.W.Frag):R2:=fun x y H Q=>∃ a b ys,x=.ref a/\y=.ref b/\SqT K H a []/\SqT K H b ys/\Q (.ref b) H
theorem zDL:OpR X (binaryOp .Add) (zFR X.K):=by
 intro pins s σ H x y v u Q I rx ry h
 obtain ⟨a,b,ys,rfl,rfl,ha,hb,q⟩:=h
 cases rx
 cases ry
 obtain ⟨its,r1,p1,_⟩:=I.tuple ha
 obtain ⟨its2,r2,p2,_⟩:=I.tuple hb
 cases r1
 obtain ⟨⟨c1,d1,t1,s1⟩,ho1,hc1,n1,hd1⟩:=id p1
 obtain ⟨⟨c2,d2,t2,s2⟩,ho2,hc2,n2,hd2⟩:=id p2
 simp only at hc1 hd1 hc2 hd2
 subst hc1 hd1 hc2 hd2
 exact concat_meets ⟨_,ho1,rfl⟩ ⟨_,ho2,rfl⟩ noFill_tuple_add seq_tuple_add PySem.F.slot_tuple_add PySem.F.entry_tuple_add (PySem.F.args_tuple_add_2 _ _) (tuple_addW0 a b #[] its2.toArray n1 n2 d1 d2 s1 s2 rfl) ⟨ho1,ho2,⟨.ref b,H,I,rfl,q⟩⟩
def zHn (K:PySem.W.Frag):R2:=fun x y H Q=>rI0 (fun i j=>.int (i+j)) x y H Q∨(zGr K x y H Q∨zFR K x y H Q)
theorem eV:OpR X (binaryOp .Add) (zHn X.K):=OpR.or zFP (OpR.or zDJ zDL)
theorem nU:OpK X (zHn X.K) vA:=⟨fun a b c z=>(by
  unfold vA at z
  split at z
  case h_1=>cases z
  case h_3=>cases z
  rename_i as bs
  have z':(if as.length+bs.length<=16777216 then Res.ok (D.tup (as++bs)) else .no)=.err c:=z
  split at z'<;>cases z'),fun Hi H x y a b d Q s r1 r2 z q=>by
  unfold vA at z
  split at z
  case h_3=>cases z
  ·cases z
   exact .inl ⟨_,_,r1.intI,r2.intI,q _ Hi H (Ext.refl s) (.int _)⟩
  ·rename_i as bs
   have z':(if as.length+bs.length<=16777216 then Res.ok (D.tup (as++bs)) else .no)=.ok d:=z
   split at z'
   ·rename_i hz
    cases z'
    obtain ⟨p,xs,rfl,h1,i1⟩:=r1.tupI
    obtain ⟨p',ys,rfl,h2,i2⟩:=r2.tupI
    by_cases h0:as.length=0
    ·have e0:as=[]:=List.eq_nil_of_length_eq_zero h0
     subst e0
     cases i1
     exact .inr (.inr ⟨p,p',ys,rfl,rfl,bY s h1,bY s h2,q _ Hi H (Ext.refl s) (.tup h2 i2)⟩)
    refine .inr (.inl ⟨p,p',xs,ys,rfl,rfl,bY s h1,bY s h2,fun e=>h0 (by rw [<-i1.length,e];rfl),by rw [i1.length,i2.length];exact hz,fun e=>?_,fun _ l hl=>?_⟩)
    ·subst e
     cases i2
     rw [List.append_nil] at q
     exact q _ Hi H (Ext.refl s) (.tup h1 i1)
    ·exact q _ _ _ (Ext.new s hl) (.tup (SqT.of aH) ((i1.append i2).mono (cA (s.none hl) _)))
   ·cases z'⟩
theorem zEl {α:Type} {xs:List α} {i:Int} {v:α} (h0:i < 0) (h1:0<=(xs.length:Int)+i) (h:xs[((xs.length:Int)+i).toNat]?=some v):atI xs i=some v:=by
 have e:ixN xs.length i=some ((xs.length:Int)+i).toNat:=by
  unfold ixN
  rw [if_neg (by omega),if_pos (by omega)]
  congr 2
  omega
 unfold atI;rw [e];exact h
theorem zAG {K:PySem.W.Frag} {H:Hp} {xs:List V} {ds:List D} {i:Int} {d:D} (h:IsDs K H xs ds) (e:atD ds i=some d):∃ v,atI xs i=some v/\IsD K H v d:=by
 unfold atD at e
 by_cases h0:0<=i
 ·rw [if_pos h0] at e
  obtain ⟨v,hv,r⟩:=h.at e
  refine ⟨v,?_,r⟩
  have:=uT hv
  rw [show ((i.toNat:Nat):Int)=i by omega] at this
  exact this
 ·rw [if_neg h0] at e
  by_cases h1:0<=(ds.length:Int)+i
  ·rw [if_pos h1] at e
   obtain ⟨v,hv,r⟩:=h.at e
   refine ⟨v,?_,r⟩
   have hl:=h.length
   have e2:((ds.length:Int)+i).toNat=((xs.length:Int)+i).toNat:=by rw [hl]
   rw [e2] at hv
   exact zEl (by omega) (by omega) hv
  ·rw [if_neg h1] at e;cases e
theorem wD:OpK X (fun x y H Q=>zHV X.K x y H Q∨zIa X.K x y H Q) oIx:=⟨fun a b c z=>(by
  unfold oIx at z
  split at z
  case h_3=>cases z
  ·rename_i ds i
   have z':ofO (atD ds i)=Res.err c:=z
   cases q:atD ds i<;>rw [q] at z'<;>cases z'
  ·rename_i ds i
   have z':ofO (atD ds i)=Res.err c:=z
   cases q:atD ds i<;>rw [q] at z'<;>cases z'),fun Hi H x y a b d Q s r1 r2 z q=>by
  unfold oIx at z
  split at z
  case h_3=>cases z
  ·rename_i ds i
   have z':ofO (atD ds i)=Res.ok d:=z
   cases w:atD ds i with
   | none=>rw [w] at z';cases z'
   | some d'=>
    rw [w] at z';cases z'
    obtain ⟨p,xs,rfl,h1,i1⟩:=r1.tupI
    obtain ⟨v,hv,r⟩:=zAG i1 w
    exact .inr ⟨p,xs,i,v,rfl,r2.intI,bY s h1,hv,q v Hi H (Ext.refl s) r⟩
  ·rename_i ds i
   have z':ofO (atD ds i)=Res.ok d:=z
   cases w:atD ds i with
   | none=>rw [w] at z';cases z'
   | some d'=>
    rw [w] at z';cases z'
    obtain ⟨p,xs,rfl,h1,i1⟩:=r1.lstI
    obtain ⟨v,hv,r⟩:=zAG i1 w
    exact .inl ⟨p,xs,i,v,rfl,r2.intI,bC s h1,hv,q v Hi H (Ext.refl s) r⟩⟩
theorem cS:IxR X (fun x y H Q=>zHV X.K x y H Q∨zIa X.K x y H Q):=zDY.or zHj
end
end L3
namespace L3
open PySem PySem.Spec PyProof.Rows L2
unseal PEd PEf PTd PWd PAd PSd cI
section
variable {X:Cx} {pins:List (Addr×Obj)} {σ:St} {H:Hp} {s:Shared}
mutual
theorem IsD.inj (I:Inv X pins σ H s):∀ {v:V} {d e:D},IsD X.K H v d->IsD X.K H v e->d=e
 | _,_,_,.non,h=>by cases h;rfl
 | _,_,_,.bl b,h=>by cases h;rfl
 | _,_,_,.int i,h=>by cases h;rfl
 | _,_,_,.str x,h=>by cases h;rfl
 | _,_,_,.tup h hs,h2=>by
  cases h2 with
  | tup h' hs'=>
   have e:=I.tuple_inj h h'
   subst e
   rw [IsDs.inj I hs hs']
  | lst h' hs'=>
   exfalso
   obtain ⟨_,_,⟨o,e,c,_⟩,_⟩:=I.tuple h
   obtain ⟨_,_,⟨o',n',e',c',_⟩,_⟩:=I.list h'
   rw [e] at e';cases e';rw [c] at c';exact absurd c' (by decide)
 | _,_,_,.lst h hs,h2=>by
  cases h2 with
  | lst h' hs'=>
   have e:=I.list_inj h h'
   subst e
   rw [IsDs.inj I hs hs']
  | tup h' hs'=>
   exfalso
   obtain ⟨_,_,⟨o,e,c,_⟩,_⟩:=I.tuple h'
   obtain ⟨_,_,⟨o',n',e',c',_⟩,_⟩:=I.list h
   rw [e] at e';cases e';rw [c] at c';exact absurd c' (by decide)
theorem IsDs.inj (I:Inv X pins σ H s):∀ {vs:List V} {ds es:List D},IsDs X.K H vs ds->IsDs X.K H vs es->ds=es
 | _,_,_,.nil,h=>by cases h;rfl
 | _,_,_,.cons h hs,h2=>by
  cases h2 with
  | cons h' hs'=>rw [IsD.inj I h h',IsDs.inj I hs hs']
end
theorem zAE {α:Type} {l:List α} {j:Nat} {x d:α} (h:l[j]?=some x):l.getD j d=x:=by
 rw [List.getD_eq_getElem?_getD,h];rfl
theorem iD {A:Around} {xs xs':List V} {ds ds':List D} {its its':List Value} (hs:IsDs X.K H xs ds) (hs':IsDs X.K H xs' ds') (rv:cO xs its) (rv':cO xs' its')
  (rc:∀ (d d':D) (v v':V) (u u':Value),d∈ds->IsD X.K H v d->IsD X.K H v' d'->cD v u->cD v' u'->SeqAt.EqAt A s u u' (eqD d d'))
  (j:Nat) (g1:j < its.toArray.size) (g2:j < its'.toArray.size):SeqAt.EqAt A s its.toArray[j] its'.toArray[j] (eqD (ds.getD j .non) (ds'.getD j .non)):=by
 have g1':j < its.length:=by simpa using g1
 have g2':j < its'.length:=by simpa using g2
 have l1:its.length=ds.length:=by rw [<-rv.length,hs.length]
 have l2:its'.length=ds'.length:=by rw [<-rv'.length,hs'.length]
 obtain ⟨d,hd⟩:∃ d,ds[j]?=some d:=⟨_,List.getElem?_eq_getElem (by omega)⟩
 obtain ⟨d',hd'⟩:∃ d,ds'[j]?=some d:=⟨_,List.getElem?_eq_getElem (by omega)⟩
 obtain ⟨v,hv,iv⟩:=hs.at hd
 obtain ⟨v',hv',iv'⟩:=hs'.at hd'
 obtain ⟨w1,hw,rw1⟩:=rv.get hv
 obtain ⟨w2,hw',rw2⟩:=rv'.get hv'
 have e1:its.toArray[j]=w1:=by
  rw [List.getElem?_eq_getElem g1'] at hw
  simpa using hw
 have e2:its'.toArray[j]=w2:=by
  rw [List.getElem?_eq_getElem g2'] at hw'
  simpa using hw'
 rw [e1,e2,zAE hd,zAE hd']
 exact rc d d' v v' w1 w2 (List.mem_of_getElem? hd) iv iv' rw1 rw2
theorem eT {ds ds':List D} (h:ds.length=ds'.length):((List.range ds.length).all fun j=>eqD (ds.getD j .non) (ds'.getD j .non))=yU ds ds':=by
 rw [iK,<-h,Nat.min_self];simp
theorem qR {ds ds':List D} (h:ds.length≠ds'.length):yU ds ds'=false:=by
 rw [iK];simp [h]
theorem rT (I:Inv X pins σ H s) {A:Around} {v v':V} {d d':D} {u u':Value} (h1:IsD X.K H v d) (h2:IsD X.K H v' d') (r1:cD v u) (r2:cD v' u') (hu:A.units < cLine)
  (rc:∀ ds,(d=.tup ds∨d=.lst ds)->∀ (e e':D) (w w':V) (z z':Value),e∈ds->IsD X.K H w e->IsD X.K H w' e'->cD w z->cD w' z'->SeqAt.EqAt A.in1 s z z' (eqD e e')):
  SeqAt.EqAt A s u u' (eqD d d'):=by
 cases h1 with
 | non=>
  cases (show u=Value.none from r1)
  cases h2 with
  | non=>cases (show u'=Value.none from r2);exact SeqAt.EqAt.same _
  | bl b=>cases (show u'=Value.bool _ from r2);exact SeqAt.EqAt.none_bool _
  | int i=>obtain ⟨t,rfl⟩:=r2;exact SeqAt.EqAt.none_int _ _
  | str x=>obtain ⟨t,rfl⟩:=r2;exact SeqAt.EqAt.none_str _ _
  | tup h hs=>cases (show u'=Value.ref _ from r2);obtain ⟨its,rv,p,hz⟩:=I.tuple h;exact SeqAt.EqAt.none_tuple (show s.heap.IsTuple _ its.toArray from p) hu
  | lst h hs=>cases (show u'=Value.ref _ from r2);obtain ⟨its,rv,p,hz⟩:=I.list h;exact SeqAt.EqAt.none_list p.isList hu
 | bl b=>
  cases (show u=Value.bool _ from r1)
  cases h2 with
  | non=>cases (show u'=Value.none from r2);exact SeqAt.EqAt.bool_none _
  | bl b=>cases (show u'=Value.bool _ from r2);exact SeqAt.EqAt.bool_bool _ _
  | int i=>obtain ⟨t,rfl⟩:=r2;exact SeqAt.EqAt.bool_int _ _ _
  | str x=>obtain ⟨t,rfl⟩:=r2;exact SeqAt.EqAt.bool_str _ _ _
  | tup h hs=>cases (show u'=Value.ref _ from r2);obtain ⟨its,rv,p,hz⟩:=I.tuple h;exact SeqAt.EqAt.bool_tuple _ (show s.heap.IsTuple _ its.toArray from p) hu
  | lst h hs=>cases (show u'=Value.ref _ from r2);obtain ⟨its,rv,p,hz⟩:=I.list h;exact SeqAt.EqAt.bool_list _ p.isList hu
 | int i=>
  obtain ⟨t,rfl⟩:=r1
  cases h2 with
  | non=>cases (show u'=Value.none from r2);exact SeqAt.EqAt.int_none _ _
  | bl b=>cases (show u'=Value.bool _ from r2);exact SeqAt.EqAt.int_bool _ _ _
  | int i=>obtain ⟨t,rfl⟩:=r2;exact SeqAt.EqAt.int_int _ _ _ _
  | str x=>obtain ⟨t,rfl⟩:=r2;exact SeqAt.EqAt.int_str _ _ _ _
  | tup h hs=>cases (show u'=Value.ref _ from r2);obtain ⟨its,rv,p,hz⟩:=I.tuple h;exact SeqAt.EqAt.int_tuple _ _ (show s.heap.IsTuple _ its.toArray from p) hu
  | lst h hs=>cases (show u'=Value.ref _ from r2);obtain ⟨its,rv,p,hz⟩:=I.list h;exact SeqAt.EqAt.int_list _ _ p.isList hu
 | str x=>
  obtain ⟨t,rfl⟩:=r1
  cases h2 with
  | non=>cases (show u'=Value.none from r2);exact SeqAt.EqAt.str_none _ _
  | bl b=>cases (show u'=Value.bool _ from r2);exact SeqAt.EqAt.str_bool _ _ _
  | int i=>obtain ⟨t,rfl⟩:=r2;exact SeqAt.EqAt.str_int _ _ _ _
  | str x=>obtain ⟨t,rfl⟩:=r2;exact SeqAt.EqAt.str_str _ _ _ _
  | tup h hs=>cases (show u'=Value.ref _ from r2);obtain ⟨its,rv,p,hz⟩:=I.tuple h;exact SeqAt.EqAt.str_tuple _ _ (show s.heap.IsTuple _ its.toArray from p) hu
  | lst h hs=>cases (show u'=Value.ref _ from r2);obtain ⟨its,rv,p,hz⟩:=I.list h;exact SeqAt.EqAt.str_list _ _ p.isList hu
 | @tup a xs ds h hs=>
  cases (show u=Value.ref a from r1)
  obtain ⟨its,rv,p,hz⟩:=I.tuple h
  cases h2 with
  | non=>cases (show u'=Value.none from r2);exact SeqAt.EqAt.tuple_none (show s.heap.IsTuple _ its.toArray from p) hu
  | bl b=>cases (show u'=Value.bool _ from r2);exact SeqAt.EqAt.tuple_bool _ (show s.heap.IsTuple _ its.toArray from p) hu
  | int i=>obtain ⟨t,rfl⟩:=r2;exact SeqAt.EqAt.tuple_int _ _ (show s.heap.IsTuple _ its.toArray from p) hu
  | str x=>obtain ⟨t,rfl⟩:=r2;exact SeqAt.EqAt.tuple_str _ _ (show s.heap.IsTuple _ its.toArray from p) hu
  | @tup a' xs' ds' h' hs'=>
   cases (show u'=Value.ref a' from r2)
   by_cases e:a=a'
   ·subst e
    have e:=I.tuple_inj h h'
    subst e
    have e:=IsDs.inj I hs hs'
    subst e
    rw [mH]
    exact SeqAt.EqAt.same _
   ·obtain ⟨its',rv',p',hz'⟩:=I.tuple h'
    have l1:its.toArray.size=ds.length:=by rw [List.size_toArray,<-rv.length,hs.length]
    have l2:its'.toArray.size=ds'.length:=by rw [List.size_toArray,<-rv'.length,hs'.length]
    have key:=SeqAt.RcAt.tuples (A:=A) (s:=s) (show s.heap.IsTuple a its.toArray from p) (show s.heap.IsTuple a' its'.toArray from p') hu
     (iD (A:=A.in1) (s:=s) hs hs' rv rv' fun d d' v v' u u' hm iv iv' r r'=>rc ds (.inl rfl) d d' v v' u u' hm iv iv' r r')
    rw [l1,l2,<-iK] at key
    exact SeqAt.EqAt.of_refs e key
  | @lst a' xs' ds' h' hs'=>
   cases (show u'=Value.ref a' from r2)
   obtain ⟨its',rv',p',hz'⟩:=I.list h'
   exact SeqAt.EqAt.tuple_list (show s.heap.IsTuple _ its.toArray from p) p'.isList hu
 | @lst a xs ds h hs=>
  cases (show u=Value.ref a from r1)
  obtain ⟨its,rv,p,hz⟩:=I.list h
  cases h2 with
  | non=>cases (show u'=Value.none from r2);exact SeqAt.EqAt.list_none p.isList hu
  | bl b=>cases (show u'=Value.bool _ from r2);exact SeqAt.EqAt.list_bool _ p.isList hu
  | int i=>obtain ⟨t,rfl⟩:=r2;exact SeqAt.EqAt.list_int _ _ p.isList hu
  | str x=>obtain ⟨t,rfl⟩:=r2;exact SeqAt.EqAt.list_str _ _ p.isList hu
  | @tup a' xs' ds' h' hs'=>
   cases (show u'=Value.ref a' from r2)
   obtain ⟨its',rv',p',hz'⟩:=I.tuple h'
   exact SeqAt.EqAt.list_tuple p.isList (show s.heap.IsTuple _ its'.toArray from p') hu
  | @lst a' xs' ds' h' hs'=>
   cases (show u'=Value.ref a' from r2)
   by_cases e:a=a'
   ·subst e
    have e:=I.list_inj h h'
    subst e
    have e:=IsDs.inj I hs hs'
    subst e
    rw [mH]
    exact SeqAt.EqAt.same _
   ·obtain ⟨its',rv',p',hz'⟩:=I.list h'
    have l1:its.toArray.size=ds.length:=by rw [List.size_toArray,<-rv.length,hs.length]
    have l2:its'.toArray.size=ds'.length:=by rw [List.size_toArray,<-rv'.length,hs'.length]
    by_cases hl:ds.length=ds'.length
    ·have key:=SeqAt.RcAt.lists (A:=A) (s:=s) p.isList p'.isList (by rw [l1,l2,hl]) hu
      (iD (A:=A.in1) (s:=s) hs hs' rv rv' fun d d' v v' u u' hm iv iv' r r'=>rc ds (.inr rfl) d d' v v' u u' hm iv iv' r r')
     rw [l1,eT hl] at key
     exact SeqAt.EqAt.of_refs e key
    ·have key:=SeqAt.RcAt.lists_lengths (A:=A) (s:=s) p.isList p'.isList (by rw [l1,l2];simp [hl]) hu
     rw [eqD,qR hl]
     exact SeqAt.EqAt.of_refs e key
theorem zBF (I:Inv X pins σ H s) (n:Nat):∀ {v v':V} {d d':D},dep d<=n->IsD X.K H v d->IsD X.K H v' d'->
  ∀ (A:Around) (u u':Value),A.units+n < cLine->cD v u->cD v' u'->SeqAt.EqAt A s u u' (eqD d d'):=by
 induction n with
 | zero=>
  intro v v' d d' hn h1 h2 A u u' hu r1 r2
  refine rT I h1 h2 r1 r2 (by omega) fun ds hd=>?_
  rcases hd with rfl | rfl<;>(rw [dep] at hn;omega)
 | succ n ih=>
  intro v v' d d' hn h1 h2 A u u' hu r1 r2
  refine rT I h1 h2 r1 r2 (by omega) fun ds hd e e' w w' z z' hm i1 i2 q1 q2=>?_
  refine ih ?_ i1 i2 A.in1 z z' (by show A.units+1+n < cLine;omega) q1 q2
  have:=jC hm
  rcases hd with rfl | rfl<;>(rw [dep] at hn;omega)
theorem zU (I:Inv X pins σ H s) {A:Around} {v v':V} {d d':D} {u u':Value} (h1:IsD X.K H v d) (h2:IsD X.K H v' d') (r1:cD v u) (r2:cD v' u') (hu:A.units < cLine)
  (rc:∀ ds,(d=.tup ds∨d=.lst ds)->∀ (e e':D) (w w':V) (z z':Value),e∈ds->IsD X.K H w e->IsD X.K H w' e'->cD w z->cD w' z'->SeqAt.EqAt A.in1 s z z' (eqD e e')):
  SeqAt.RcAt A s u u' (eqD d d'):=by
 cases h1 with
 | non=>
  cases (show u=Value.none from r1)
  cases h2 with
  | non=>cases (show u'=Value.none from r2);exact SeqAt.RcAt.none_none
  | bl b=>cases (show u'=Value.bool _ from r2);exact SeqAt.RcAt.none_bool _
  | int i=>obtain ⟨t,rfl⟩:=r2;exact SeqAt.RcAt.none_int _ _
  | str x=>obtain ⟨t,rfl⟩:=r2;exact SeqAt.RcAt.none_str _ _
  | tup h hs=>cases (show u'=Value.ref _ from r2);obtain ⟨its,rv,p,hz⟩:=I.tuple h;exact SeqAt.RcAt.none_tuple (show s.heap.IsTuple _ its.toArray from p) hu
  | lst h hs=>cases (show u'=Value.ref _ from r2);obtain ⟨its,rv,p,hz⟩:=I.list h;exact SeqAt.RcAt.none_list p.isList hu
 | bl b=>
  cases (show u=Value.bool _ from r1)
  cases h2 with
  | non=>cases (show u'=Value.none from r2);exact SeqAt.RcAt.bool_none _
  | bl b=>cases (show u'=Value.bool _ from r2);exact SeqAt.RcAt.bool_bool _ _
  | int i=>obtain ⟨t,rfl⟩:=r2;exact SeqAt.RcAt.bool_int _ _ _
  | str x=>obtain ⟨t,rfl⟩:=r2;exact SeqAt.RcAt.bool_str _ _ _
  | tup h hs=>cases (show u'=Value.ref _ from r2);obtain ⟨its,rv,p,hz⟩:=I.tuple h;exact SeqAt.RcAt.bool_tuple _ (show s.heap.IsTuple _ its.toArray from p) hu
  | lst h hs=>cases (show u'=Value.ref _ from r2);obtain ⟨its,rv,p,hz⟩:=I.list h;exact SeqAt.RcAt.bool_list _ p.isList hu
 | int i=>
  obtain ⟨t,rfl⟩:=r1
  cases h2 with
  | non=>cases (show u'=Value.none from r2);exact SeqAt.RcAt.int_none _ _
  | bl b=>cases (show u'=Value.bool _ from r2);exact SeqAt.RcAt.int_bool _ _ _
  | int i=>obtain ⟨t,rfl⟩:=r2;exact SeqAt.RcAt.int_int _ _ _ _
  | str x=>obtain ⟨t,rfl⟩:=r2;exact SeqAt.RcAt.int_str _ _ _ _
  | tup h hs=>cases (show u'=Value.ref _ from r2);obtain ⟨its,rv,p,hz⟩:=I.tuple h;exact SeqAt.RcAt.int_tuple _ _ (show s.heap.IsTuple _ its.toArray from p) hu
  | lst h hs=>cases (show u'=Value.ref _ from r2);obtain ⟨its,rv,p,hz⟩:=I.list h;exact SeqAt.RcAt.int_list _ _ p.isList hu
 | str x=>
  obtain ⟨t,rfl⟩:=r1
  cases h2 with
  | non=>cases (show u'=Value.none from r2);exact SeqAt.RcAt.str_none _ _
  | bl b=>cases (show u'=Value.bool _ from r2);exact SeqAt.RcAt.str_bool _ _ _
  | int i=>obtain ⟨t,rfl⟩:=r2;exact SeqAt.RcAt.str_int _ _ _ _
  | str x=>obtain ⟨t,rfl⟩:=r2;exact SeqAt.RcAt.str_str _ _ _ _
  | tup h hs=>cases (show u'=Value.ref _ from r2);obtain ⟨its,rv,p,hz⟩:=I.tuple h;exact SeqAt.RcAt.str_tuple _ _ (show s.heap.IsTuple _ its.toArray from p) hu
  | lst h hs=>cases (show u'=Value.ref _ from r2);obtain ⟨its,rv,p,hz⟩:=I.list h;exact SeqAt.RcAt.str_list _ _ p.isList hu
 | @tup a xs ds h hs=>
  cases (show u=Value.ref a from r1)
  obtain ⟨its,rv,p,hz⟩:=I.tuple h
  cases h2 with
  | non=>cases (show u'=Value.none from r2);exact SeqAt.RcAt.tuple_none (show s.heap.IsTuple _ its.toArray from p) hu
  | bl b=>cases (show u'=Value.bool _ from r2);exact SeqAt.RcAt.tuple_bool _ (show s.heap.IsTuple _ its.toArray from p) hu
  | int i=>obtain ⟨t,rfl⟩:=r2;exact SeqAt.RcAt.tuple_int _ _ (show s.heap.IsTuple _ its.toArray from p) hu
  | str x=>obtain ⟨t,rfl⟩:=r2;exact SeqAt.RcAt.tuple_str _ _ (show s.heap.IsTuple _ its.toArray from p) hu
  | @tup a' xs' ds' h' hs'=>
   cases (show u'=Value.ref a' from r2)
   ·obtain ⟨its',rv',p',hz'⟩:=I.tuple h'
    have l1:its.toArray.size=ds.length:=by rw [List.size_toArray,<-rv.length,hs.length]
    have l2:its'.toArray.size=ds'.length:=by rw [List.size_toArray,<-rv'.length,hs'.length]
    have key:=SeqAt.RcAt.tuples (A:=A) (s:=s) (show s.heap.IsTuple a its.toArray from p) (show s.heap.IsTuple a' its'.toArray from p') hu
     (iD (A:=A.in1) (s:=s) hs hs' rv rv' fun d d' v v' u u' hm iv iv' r r'=>rc ds (.inl rfl) d d' v v' u u' hm iv iv' r r')
    rw [l1,l2,<-iK] at key
    exact key
  | @lst a' xs' ds' h' hs'=>
   cases (show u'=Value.ref a' from r2)
   obtain ⟨its',rv',p',hz'⟩:=I.list h'
   exact SeqAt.RcAt.tuple_list (show s.heap.IsTuple _ its.toArray from p) p'.isList hu
 | @lst a xs ds h hs=>
  cases (show u=Value.ref a from r1)
  obtain ⟨its,rv,p,hz⟩:=I.list h
  cases h2 with
  | non=>cases (show u'=Value.none from r2);exact SeqAt.RcAt.list_none p.isList hu
  | bl b=>cases (show u'=Value.bool _ from r2);exact SeqAt.RcAt.list_bool _ p.isList hu
  | int i=>obtain ⟨t,rfl⟩:=r2;exact SeqAt.RcAt.list_int _ _ p.isList hu
  | str x=>obtain ⟨t,rfl⟩:=r2;exact SeqAt.RcAt.list_str _ _ p.isList hu
  | @tup a' xs' ds' h' hs'=>
   cases (show u'=Value.ref a' from r2)
   obtain ⟨its',rv',p',hz'⟩:=I.tuple h'
   exact SeqAt.RcAt.list_tuple p.isList (show s.heap.IsTuple _ its'.toArray from p') hu
  | @lst a' xs' ds' h' hs'=>
   cases (show u'=Value.ref a' from r2)
   ·obtain ⟨its',rv',p',hz'⟩:=I.list h'
    have l1:its.toArray.size=ds.length:=by rw [List.size_toArray,<-rv.length,hs.length]
    have l2:its'.toArray.size=ds'.length:=by rw [List.size_toArray,<-rv'.length,hs'.length]
    by_cases hl:ds.length=ds'.length
    ·have key:=SeqAt.RcAt.lists (A:=A) (s:=s) p.isList p'.isList (by rw [l1,l2,hl]) hu
      (iD (A:=A.in1) (s:=s) hs hs' rv rv' fun d d' v v' u u' hm iv iv' r r'=>rc ds (.inr rfl) d d' v v' u u' hm iv iv' r r')
     rw [l1,eT hl] at key
     exact key
    ·have key:=SeqAt.RcAt.lists_lengths (A:=A) (s:=s) p.isList p'.isList (by rw [l1,l2];simp [hl]) hu
     rw [eqD,qR hl]
     exact key
theorem zM (I:Inv X pins σ H s) {A:Around} {v v':V} {d d':D} {u u':Value} (h1:IsD X.K H v d) (h2:IsD X.K H v' d') (r1:cD v u) (r2:cD v' u') (hu:A.units < cLine)
  (rc:∀ ds,(d=.tup ds∨d=.lst ds)->∀ (e e':D) (w w':V) (z z':Value),e∈ds->IsD X.K H w e->IsD X.K H w' e'->cD w z->cD w' z'->SeqAt.EqAt A.in1 s z z' (eqD e e')):
  SeqAt.RcNeAt A s u u' (!eqD d d'):=by
 cases h1 with
 | non=>
  cases (show u=Value.none from r1)
  cases h2 with
  | non=>cases (show u'=Value.none from r2);exact SeqAt.RcNeAt.none_none
  | bl b=>cases (show u'=Value.bool _ from r2);exact SeqAt.RcNeAt.none_bool _
  | int i=>obtain ⟨t,rfl⟩:=r2;exact SeqAt.RcNeAt.none_int _ _
  | str x=>obtain ⟨t,rfl⟩:=r2;exact SeqAt.RcNeAt.none_str _ _
  | tup h hs=>cases (show u'=Value.ref _ from r2);obtain ⟨its,rv,p,hz⟩:=I.tuple h;exact SeqAt.RcNeAt.none_tuple (show s.heap.IsTuple _ its.toArray from p) hu
  | lst h hs=>cases (show u'=Value.ref _ from r2);obtain ⟨its,rv,p,hz⟩:=I.list h;exact SeqAt.RcNeAt.none_list p.isList hu
 | bl b=>
  cases (show u=Value.bool _ from r1)
  cases h2 with
  | non=>cases (show u'=Value.none from r2);exact SeqAt.RcNeAt.bool_none _
  | bl b=>cases (show u'=Value.bool _ from r2);exact SeqAt.RcNeAt.bool_bool _ _
  | int i=>obtain ⟨t,rfl⟩:=r2;exact SeqAt.RcNeAt.bool_int _ _ _
  | str x=>obtain ⟨t,rfl⟩:=r2;exact SeqAt.RcNeAt.bool_str _ _ _
  | tup h hs=>cases (show u'=Value.ref _ from r2);obtain ⟨its,rv,p,hz⟩:=I.tuple h;exact SeqAt.RcNeAt.bool_tuple _ (show s.heap.IsTuple _ its.toArray from p) hu
  | lst h hs=>cases (show u'=Value.ref _ from r2);obtain ⟨its,rv,p,hz⟩:=I.list h;exact SeqAt.RcNeAt.bool_list _ p.isList hu
 | int i=>
  obtain ⟨t,rfl⟩:=r1
  cases h2 with
  | non=>cases (show u'=Value.none from r2);exact SeqAt.RcNeAt.int_none _ _
  | bl b=>cases (show u'=Value.bool _ from r2);exact SeqAt.RcNeAt.int_bool _ _ _
  | int i=>obtain ⟨t,rfl⟩:=r2;exact SeqAt.RcNeAt.int_int _ _ _ _
  | str x=>obtain ⟨t,rfl⟩:=r2;exact SeqAt.RcNeAt.int_str _ _ _ _
  | tup h hs=>cases (show u'=Value.ref _ from r2);obtain ⟨its,rv,p,hz⟩:=I.tuple h;exact SeqAt.RcNeAt.int_tuple _ _ (show s.heap.IsTuple _ its.toArray from p) hu
  | lst h hs=>cases (show u'=Value.ref _ from r2);obtain ⟨its,rv,p,hz⟩:=I.list h;exact SeqAt.RcNeAt.int_list _ _ p.isList hu
 | str x=>
  obtain ⟨t,rfl⟩:=r1
  cases h2 with
  | non=>cases (show u'=Value.none from r2);exact SeqAt.RcNeAt.str_none _ _
  | bl b=>cases (show u'=Value.bool _ from r2);exact SeqAt.RcNeAt.str_bool _ _ _
  | int i=>obtain ⟨t,rfl⟩:=r2;exact SeqAt.RcNeAt.str_int _ _ _ _
  | str x=>obtain ⟨t,rfl⟩:=r2;exact SeqAt.RcNeAt.str_str _ _ _ _
  | tup h hs=>cases (show u'=Value.ref _ from r2);obtain ⟨its,rv,p,hz⟩:=I.tuple h;exact SeqAt.RcNeAt.str_tuple _ _ (show s.heap.IsTuple _ its.toArray from p) hu
  | lst h hs=>cases (show u'=Value.ref _ from r2);obtain ⟨its,rv,p,hz⟩:=I.list h;exact SeqAt.RcNeAt.str_list _ _ p.isList hu
 | @tup a xs ds h hs=>
  cases (show u=Value.ref a from r1)
  obtain ⟨its,rv,p,hz⟩:=I.tuple h
  cases h2 with
  | non=>cases (show u'=Value.none from r2);exact SeqAt.RcNeAt.tuple_none (show s.heap.IsTuple _ its.toArray from p) hu
  | bl b=>cases (show u'=Value.bool _ from r2);exact SeqAt.RcNeAt.tuple_bool _ (show s.heap.IsTuple _ its.toArray from p) hu
  | int i=>obtain ⟨t,rfl⟩:=r2;exact SeqAt.RcNeAt.tuple_int _ _ (show s.heap.IsTuple _ its.toArray from p) hu
  | str x=>obtain ⟨t,rfl⟩:=r2;exact SeqAt.RcNeAt.tuple_str _ _ (show s.heap.IsTuple _ its.toArray from p) hu
  | @tup a' xs' ds' h' hs'=>
   cases (show u'=Value.ref a' from r2)
   ·obtain ⟨its',rv',p',hz'⟩:=I.tuple h'
    have l1:its.toArray.size=ds.length:=by rw [List.size_toArray,<-rv.length,hs.length]
    have l2:its'.toArray.size=ds'.length:=by rw [List.size_toArray,<-rv'.length,hs'.length]
    have key:=SeqAt.RcNeAt.tuples (A:=A) (s:=s) (show s.heap.IsTuple a its.toArray from p) (show s.heap.IsTuple a' its'.toArray from p') hu
     (iD (A:=A.in1) (s:=s) hs hs' rv rv' fun d d' v v' u u' hm iv iv' r r'=>rc ds (.inl rfl) d d' v v' u u' hm iv iv' r r')
    rw [l1,l2,<-iK] at key
    exact key
  | @lst a' xs' ds' h' hs'=>
   cases (show u'=Value.ref a' from r2)
   obtain ⟨its',rv',p',hz'⟩:=I.list h'
   exact SeqAt.RcNeAt.tuple_list (show s.heap.IsTuple _ its.toArray from p) p'.isList hu
 | @lst a xs ds h hs=>
  cases (show u=Value.ref a from r1)
  obtain ⟨its,rv,p,hz⟩:=I.list h
  cases h2 with
  | non=>cases (show u'=Value.none from r2);exact SeqAt.RcNeAt.list_none p.isList hu
  | bl b=>cases (show u'=Value.bool _ from r2);exact SeqAt.RcNeAt.list_bool _ p.isList hu
  | int i=>obtain ⟨t,rfl⟩:=r2;exact SeqAt.RcNeAt.list_int _ _ p.isList hu
  | str x=>obtain ⟨t,rfl⟩:=r2;exact SeqAt.RcNeAt.list_str _ _ p.isList hu
  | @tup a' xs' ds' h' hs'=>
   cases (show u'=Value.ref a' from r2)
   obtain ⟨its',rv',p',hz'⟩:=I.tuple h'
   exact SeqAt.RcNeAt.list_tuple p.isList (show s.heap.IsTuple _ its'.toArray from p') hu
  | @lst a' xs' ds' h' hs'=>
   cases (show u'=Value.ref a' from r2)
   ·obtain ⟨its',rv',p',hz'⟩:=I.list h'
    have l1:its.toArray.size=ds.length:=by rw [List.size_toArray,<-rv.length,hs.length]
    have l2:its'.toArray.size=ds'.length:=by rw [List.size_toArray,<-rv'.length,hs'.length]
    by_cases hl:ds.length=ds'.length
    ·have key:=SeqAt.RcNeAt.lists (A:=A) (s:=s) p.isList p'.isList (by rw [l1,l2,hl]) hu
      (iD (A:=A.in1) (s:=s) hs hs' rv rv' fun d d' v v' u u' hm iv iv' r r'=>rc ds (.inr rfl) d d' v v' u u' hm iv iv' r r')
     rw [l1,eT hl] at key
     exact key
    ·have key:=SeqAt.RcNeAt.lists_lengths (A:=A) (s:=s) p.isList p'.isList (by rw [l1,l2];simp [hl]) hu
     rw [eqD,qR hl]
     exact key
theorem eqA {X:Cx} (hu:X.A.units+64 < cLine):OpR X (compareOp .Eq) (fun x y H Q=>∃ d d',IsD X.K H x d/\IsD X.K H y d'/\dep d<=50/\Q (.bl (eqD d d')) H):=by
 intro pins s σ H x y v u Q I rx ry h
 obtain ⟨d,d',h1,h2,hn,q⟩:=h
 refine zU I h1 h2 rx ry (by omega) (fun ds hd e e' w w' z z' hm i1 i2 q1 q2=>?_) X.prog X.w X.xe _ ⟨.bl _,H,I,rfl,q⟩
 refine zBF I 50 ?_ i1 i2 X.A.in1 z z' (by show X.A.units+1+50 < cLine;omega) q1 q2
 have:=jC hm
 rcases hd with rfl | rfl<;>(rw [dep] at hn;omega)
theorem neA {X:Cx} (hu:X.A.units+64 < cLine):OpR X (compareOp .NotEq) (fun x y H Q=>∃ d d',IsD X.K H x d/\IsD X.K H y d'/\dep d<=50/\Q (.bl (!eqD d d')) H):=by
 intro pins s σ H x y v u Q I rx ry h
 obtain ⟨d,d',h1,h2,hn,q⟩:=h
 refine zM I h1 h2 rx ry (by omega) (fun ds hd e e' w w' z z' hm i1 i2 q1 q2=>?_) X.prog X.w X.xe _ ⟨.bl _,H,I,rfl,q⟩
 refine zBF I 50 ?_ i1 i2 X.A.in1 z z' (by show X.A.units+1+50 < cLine;omega) q1 q2
 have:=jC hm
 rcases hd with rfl | rfl<;>(rw [dep] at hn;omega)
theorem kT {X:Cx}:OpK X (fun x y H Q=>∃ d d',IsD X.K H x d/\IsD X.K H y d'/\dep d<=50/\Q (.bl (eqD d d')) H) oEq:=⟨fun a b c z=>(by
  unfold oEq at z;split at z<;>cases z),fun Hi H x y a b d Q s r1 r2 z q=>by
  unfold oEq at z
  split at z
  ·rename_i h;cases z;exact ⟨a,b,r1.mono s,r2.mono s,h,q _ Hi H (Ext.refl s) (.bl _)⟩
  ·cases z⟩
theorem zAC {X:Cx}:OpK X (fun x y H Q=>∃ d d',IsD X.K H x d/\IsD X.K H y d'/\dep d<=50/\Q (.bl (!eqD d d')) H) oNe:=⟨fun a b c z=>(by
  unfold oNe at z;split at z<;>cases z),fun Hi H x y a b d Q s r1 r2 z q=>by
  unfold oNe at z
  split at z
  ·rename_i h;cases z;exact ⟨a,b,r1.mono s,r2.mono s,h,q _ Hi H (Ext.refl s) (.bl _)⟩
  ·cases z⟩
open Classical in
def zC (K:PySem.W.Frag) (H:Hp) (dx:D) (u:Value):Bool:=if ∃ w d,IsD K H w d/\cD w u/\eqD d dx=true then true else false
theorem uD (I:Inv X pins σ H s) {dx d:D} {w:V} {u:Value} (h:IsD X.K H w d) (r:cD w u):zC X.K H dx u=eqD d dx:=by
 unfold zC
 by_cases e:eqD d dx=true
 ·rw [if_pos ⟨w,d,h,r,e⟩,e]
 ·rw [if_neg]
  ·simpa using e
  ·rintro ⟨w',d',h',r',e'⟩
   have:=r.inj r'
   subst this
   have:=IsD.inj I h h'
   subst this
   exact e e'
theorem mX (I:Inv X pins σ H s) {dx:D}:∀ {xs:List V} {ds:List D} {us:List Value},IsDs X.K H xs ds->cO xs us->us.any (zC X.K H dx)=ds.any fun d=>eqD d dx
 | _,_,_,.nil,.nil=>rfl
 | _,_,_,.cons h hs,.cons r t=>by rw [List.any_cons,List.any_cons,uD I h r,mX I hs t]
theorem kY (I:Inv X pins σ H s) {A:Around} {dx:D} {x:V} {ux:Value} (hx:IsD X.K H x dx) (rx:cD x ux) (hu:A.units+50 < cLine):∀ {xs:List V} {ds:List D} {us:List Value},IsDs X.K H xs ds->cO xs us->(∀ d∈ds,dep d<=50)->∀ u∈us,SeqAt.EqAt A s u ux (zC X.K H dx u)
 | _,_,_,.nil,.nil,_=>fun u hu=>by cases hu
 | _,_,_,.cons h hs,.cons r t,f=>fun u hm=>by
  rcases List.mem_cons.mp hm with rfl | hm
  ·rw [uD I h r];exact zBF I 50 (f _ List.mem_cons_self) h hx A _ ux hu r rx
  ·exact kY I hx rx hu hs t (fun d hd=>f d (List.mem_cons_of_mem _ hd)) u hm
def zHZ (K:PySem.W.Frag) (neg:Bool):R2:=fun x y H Q=>∃ d ds,IsD K H x d/\(IsD K H y (.lst ds)∨IsD K H y (.tup ds))/\depS ds<=50/\Q (.bl (if neg=true then !(ds.any fun e=>eqD e d) else ds.any fun e=>eqD e d)) H
theorem inA {X:Cx} (hu:X.A.units+64 < cLine):OpR X (compareOp .In) (zHZ X.K false):=by
 intro pins s σ H x y v u Q I rx ry h
 obtain ⟨d,ds,h1,h2,hn,q⟩:=h
 have hd:∀ e∈ds,dep e<=50:=fun e he=>Nat.le_trans (jC he) hn
 rcases h2 with h2 | h2
 ·obtain ⟨a,xs,rfl,hl,hs⟩:=h2.lstI
  cases ry
  obtain ⟨its,rv,p,hz⟩:=I.list hl
  refine SeqAt.in_listAt (zC X.K H d) p.isList (fun y hy=>kY I h1 rx (by show X.A.units+1+50 < cLine;omega) hs rv hd y (by simpa using hy)) ?_
  exact ⟨.bl _,H,I,by rw [List.any_toArray,mX I hs rv];rfl,q⟩
 ·obtain ⟨a,xs,rfl,hl,hs⟩:=h2.tupI
  cases ry
  obtain ⟨its,rv,p,hz⟩:=I.tuple hl
  refine SeqAt.in_tupleAt (zC X.K H d) (show s.heap.IsTuple _ its.toArray from p) (fun y hy=>kY I h1 rx (by show X.A.units+1+50 < cLine;omega) hs rv hd y (by simpa using hy)) ?_
  exact ⟨.bl _,H,I,by rw [List.any_toArray,mX I hs rv];rfl,q⟩
theorem zDd {X:Cx} (hu:X.A.units+64 < cLine):OpR X (compareOp .NotIn) (zHZ X.K true):=by
 intro pins s σ H x y v u Q I rx ry h
 obtain ⟨d,ds,h1,h2,hn,q⟩:=h
 have hd:∀ e∈ds,dep e<=50:=fun e he=>Nat.le_trans (jC he) hn
 rcases h2 with h2 | h2
 ·obtain ⟨a,xs,rfl,hl,hs⟩:=h2.lstI
  cases ry
  obtain ⟨its,rv,p,hz⟩:=I.list hl
  refine SeqAt.notIn_listAt (zC X.K H d) p.isList (fun y hy=>kY I h1 rx (by show X.A.units+1+50 < cLine;omega) hs rv hd y (by simpa using hy)) ?_
  exact ⟨.bl _,H,I,by rw [List.any_toArray,mX I hs rv];rfl,q⟩
 ·obtain ⟨a,xs,rfl,hl,hs⟩:=h2.tupI
  cases ry
  obtain ⟨its,rv,p,hz⟩:=I.tuple hl
  refine SeqAt.notIn_tupleAt (zC X.K H d) (show s.heap.IsTuple _ its.toArray from p) (fun y hy=>kY I h1 rx (by show X.A.units+1+50 < cLine;omega) hs rv hd y (by simpa using hy)) ?_
  exact ⟨.bl _,H,I,by rw [List.any_toArray,mX I hs rv];rfl,q⟩
theorem zKd {X:Cx}:OpK X (zHZ X.K false) oIn:=⟨fun a b c z=>(by
  cases b<;>first | cases z | (simp only [oIn] at z;split at z<;>cases z)),fun Hi H x y a b d Q s r1 r2 z q=>by
  cases b<;>first | cases z | skip
  ·rename_i ds
   simp only [oIn] at z
   split at z
   ·rename_i h;cases z;exact ⟨a,ds,r1.mono s,.inr (r2.mono s),h,q _ Hi H (Ext.refl s) (.bl _)⟩
   ·cases z
  ·rename_i ds
   simp only [oIn] at z
   split at z
   ·rename_i h;cases z;exact ⟨a,ds,r1.mono s,.inl (r2.mono s),h,q _ Hi H (Ext.refl s) (.bl _)⟩
   ·cases z⟩
theorem zBq {X:Cx}:OpK X (zHZ X.K true) iQ:=⟨fun a b c z=>(by
  cases b<;>first | cases z | (simp only [iQ] at z;split at z<;>cases z)),fun Hi H x y a b d Q s r1 r2 z q=>by
  cases b<;>first | cases z | skip
  ·rename_i ds
   simp only [iQ] at z
   split at z
   ·rename_i h;cases z;exact ⟨a,ds,r1.mono s,.inr (r2.mono s),h,q _ Hi H (Ext.refl s) (.bl _)⟩
   ·cases z
  ·rename_i ds
   simp only [iQ] at z
   split at z
   ·rename_i h;cases z;exact ⟨a,ds,r1.mono s,.inl (r2.mono s),h,q _ Hi H (Ext.refl s) (.bl _)⟩
   ·cases z⟩
end
end L3
namespace L3
open PySem PySem.Spec PyProof.Rows L2
unseal PEd PEf PTd PWd PAd PSd cI
section
variable {X:Cx} {G:Gx} {a b e:Expr} {es:List Expr} {pos p:Pos} {f g:Ev} {fs gs:Fv} {t u:Tv} {x:Str} {id T:String}
def pB (X:Cx) (r:List V->Hp->VK->Prop) (o:List D->Res D):Prop:=(∀ a c,o a≠.err c)/\∀ (Hi H:Hp) (vs:List V) (ds:List D) (d:D) (Q:VK),Same Hi H->IsDs X.K Hi vs ds->o ds=.ok d->
 (∀ v Hi' H',Ext Hi H Hi' H'->IsD X.K Hi' v d->Q v H')->r vs H Q
theorem zFY {r:List V->Hp->VK->Prop} {o:List D->Res D} (k:pB X r o):∀ σ H Q,tD X G (eB o fs) σ H Q->tCB r (tAs X G fs) σ H Q:=fun σ H Q q=>by
 obtain ⟨ρ,Hi,R,ou⟩:=q
 refine zBP R ou fun vs ds Hi1 H1 e1 R1 r1 o1=>?_
 cases z:o ds with
 | no=>rw [z] at o1;exact o1.elim
 | err c=>exact absurd z (k.1 ds c)
 | ok d=>rw [z] at o1;exact k.2 Hi1 H1 vs ds d Q R1.s r1 z fun v Hi2 H2 e2 r2=>o1 Hi2 H2 e2 v r2
theorem bD {r:List V->Hp->VK->Prop} {o:List D->Res D} (hc:iN X (.builtin id) r) (k:pB X r o) (hg:Gl X x) (hm:X.mg x=none) (hv:bootBuiltins x=some (.builtin id)) (ha:PAd X G (e::es) fs) (hn:x ≠ "__name__" := by decide) (hdb:(x==("__debug__" : Str))=false:=by decide)
  (he:starEach (e::es) X.env=(false,eval e X.env)::starEach es X.env:=by rfl) (hpl:(backTo pos (starEach es X.env)).any (·.1)=false:=by rfl):PEd X G (.Call (.Name x p) (e::es) [] pos) (eB o fs):=
 PE.wk (iJ hc hg hm hv ha hn hdb he hpl) (zFY k)
theorem oH {r:List V->Hp->VK->Prop} {o:List D->Res D} (hc:iN X (.type T) r) (k:pB X r o) (hg:Gl X x) (hm:X.mg x=none) (hv:bootBuiltins x=some (.type T)) (ha:PAd X G (e::es) fs) (hn:x ≠ "__name__" := by decide) (hdb:(x==("__debug__" : Str))=false:=by decide)
  (he:starEach (e::es) X.env=(false,eval e X.env)::starEach es X.env:=by rfl) (hpl:(backTo pos (starEach es X.env)).any (·.1)=false:=by rfl):PEd X G (.Call (.Name x p) (e::es) [] pos) (eB o fs):=
 PE.wk (tR hc hg hm hv ha hn hdb he hpl) (zFY k)
theorem IsDs.one {K:PySem.W.Frag} {H:Hp} {vs:List V} {d:D} (h:IsDs K H vs [d]):∃ v,vs=[v]/\IsD K H v d:=by
 cases h with
 | cons h t=>cases t;exact ⟨_,rfl,h⟩
theorem IsDs.two {K:PySem.W.Frag} {H:Hp} {vs:List V} {d d':D} (h:IsDs K H vs [d,d']):∃ v w,vs=[v,w]/\IsD K H v d/\IsD K H w d':=by
 cases h with
 | cons h t=>obtain ⟨w,rfl,hw⟩:=t.one;exact ⟨_,w,rfl,h,hw⟩
theorem iA:pB X (fun xs H Q=>∃ p ys,xs=[.ref p]/\(SqL X.K H p ys∨SqT X.K H p ys)/\Q (.int ys.length) H) pN:=⟨fun a c z=>(by
  unfold pN at z;split at z<;>cases z),fun Hi H vs ds d Q s r z q=>by
  unfold pN at z
  split at z
  ·cases z
   obtain ⟨v,rfl,h⟩:=r.one
   obtain ⟨a,xs,rfl,h1,h2⟩:=h.lstI
   refine ⟨a,xs,rfl,.inl (bC s h1),?_⟩
   rw [h2.length]
   exact q _ Hi H (Ext.refl s) (.int _)
  ·cases z
   obtain ⟨v,rfl,h⟩:=r.one
   obtain ⟨a,xs,rfl,h1,h2⟩:=h.tupI
   refine ⟨a,xs,rfl,.inr (bY s h1),?_⟩
   rw [h2.length]
   exact q _ Hi H (Ext.refl s) (.int _)
  ·cases z⟩
theorem vQ:pB X (fun xs H Q=>∃ i,xs=[.int i]/\Q (.int (if i < 0 then -i else i)) H) zDB:=⟨fun a c z=>(by
  unfold zDB at z;split at z<;>cases z),fun Hi H vs ds d Q s r z q=>by
  unfold zDB at z
  split at z
  ·cases z
   obtain ⟨v,rfl,h⟩:=r.one
   exact ⟨_,by rw [h.intI],q _ Hi H (Ext.refl s) (.int _)⟩
  ·cases z⟩
theorem zGg:pB X (fun xs H Q=>∃ p ys,xs=[.ref p]/\((SqL X.K H p ys/\∀ l,H l=none->Q (.ref l) (upd H l (.tup ys)))∨(SqT X.K H p ys/\Q (.ref p) H))) zFJ:=⟨fun a c z=>(by
  unfold zFJ at z;split at z<;>cases z),fun Hi H vs ds d Q s r z q=>by
  unfold zFJ at z
  split at z
  ·cases z
   obtain ⟨v,rfl,h⟩:=r.one
   obtain ⟨a,xs,rfl,h1,h2⟩:=h.lstI
   exact ⟨a,xs,rfl,.inl ⟨bC s h1,fun l hl=>q _ _ _ (Ext.new s hl) (.tup (SqT.of aH) (h2.mono (cA (s.none hl) _)))⟩⟩
  ·cases z
   obtain ⟨v,rfl,h⟩:=r.one
   obtain ⟨a,xs,rfl,h1,h2⟩:=h.tupI
   exact ⟨a,xs,rfl,.inr ⟨bY s h1,q _ Hi H (Ext.refl s) (.tup h1 h2)⟩⟩
  ·cases z⟩
theorem zAf (hg:Gl X "list") (hm:X.mg "list" = none) (hv:bootBuiltins "list" = some (.type "list")) (ha:PAd X G (e::es) fs)
  (he:starEach (e::es) X.env=(false,eval e X.env)::starEach es X.env:=by rfl) (hpl:(backTo pos (starEach es X.env)).any (·.1)=false:=by rfl):PEf X G (.Call (.Name "list" p) (e::es) [] pos) (zBO fs):=
 PE.wk (tR sV hg hm hv ha (by decide) (by decide) he hpl) fun σ H Q q=>by
 obtain ⟨ρ,Hi,R,ou⟩:=q
 refine zBP R ou fun vs ds Hi1 H1 e1 R1 r1 o1=>?_
 split at o1
 ·obtain ⟨v,rfl,h⟩:=r1.one
  obtain ⟨a,xs,rfl,h1,h2⟩:=h.lstI
  exact ⟨a,xs,rfl,.inl (bC R1.s h1),fun l hl=>o1 _ _ (Ext.newF R1.s hl) l ⟨e1.h.none hl,R1.s.none hl,xs,aH,h2⟩⟩
 ·obtain ⟨v,rfl,h⟩:=r1.one
  obtain ⟨a,xs,rfl,h1,h2⟩:=h.tupI
  exact ⟨a,xs,rfl,.inr (bY R1.s h1),fun l hl=>o1 _ _ (Ext.newF R1.s hl) l ⟨e1.h.none hl,R1.s.none hl,xs,aH,h2⟩⟩
 ·exact o1.elim
structure Kit (K:PySem.W.Frag) (T:String):Prop where
 non:PySem.W.kitOne K (.type "NoneType") (.type T)=some (isT T .non)
 bl:PySem.W.kitOne K (.type "bool") (.type T)=some (isT T (.bl true))
 int:PySem.W.kitOne K (.type "int") (.type T)=some (isT T (.int 0))
 str:PySem.W.kitOne K (.type "str") (.type T)=some (isT T (.str ⟨#[]⟩))
 tup:PySem.W.kitOne K (.type "tuple") (.type T)=some (isT T (.tup []))
 lst:PySem.W.kitOne K (.type "list") (.type T)=some (isT T (.lst []))
theorem zGR (k:Kit X.K T):iN X (.builtin "isinstance") (fun xs H Q=>∃ y d,xs=[y,.ty T]/\IsD X.K H y d/\Q (.bl (isT T d)) H):=by
 intro pins s σ H xs us Q I r h
 obtain ⟨y,d,rfl,hd,q⟩:=h
 obtain ⟨u,w',rfl,rx,rc⟩:=zER r
 cases rc
 have fin:∀ tk,EP X pins σ Q (.bool (isT T d)) { s with toks:=tk }:=fun tk=>⟨.bl _,H,I.tok _,rfl,q⟩
 cases hd with
 | non=>cases (show u=Value.none from rx);exact PySem.W.kia_one PySem.W.kitx_none I.kIn True.intro k.non (fun z=>nomatch z) fin
 | bl y=>cases (show u=Value.bool y from rx);exact PySem.W.kia_one PySem.W.kitx_bool I.kIn True.intro k.bl (fun z=>nomatch z) fin
 | int i=>obtain ⟨t,q⟩:=(show ∃ t,u=Value.int i t from rx);cases q;exact PySem.W.kia_one PySem.W.kitx_int I.kIn True.intro k.int (fun z=>nomatch z) fin
 | str y=>obtain ⟨t,q⟩:=(show ∃ t,u=Value.str y t from rx);cases q;exact PySem.W.kia_one PySem.W.kitx_str I.kIn True.intro k.str (fun z=>nomatch z) fin
 | @tup a xs ds h hs=>
  cases (show u=Value.ref a from rx)
  obtain ⟨its,rv,⟨o,h1,h2,_⟩,hz⟩:=I.tuple h
  exact PySem.W.kia_one PySem.W.kitx_tuple I.kIn ⟨o,h1,h2⟩ k.tup (fun z=>nomatch z) fin
 | @lst a xs ds h hs=>
  cases (show u=Value.ref a from rx)
  obtain ⟨its,rv,⟨o,n,h1,h2,_⟩,hz⟩:=I.list h
  exact PySem.W.kia_one PySem.W.kitx_list I.kIn ⟨o,h1,h2⟩ k.lst (fun z=>nomatch z) fin
theorem zFU {c:Expr} (k:Kit X.K T) (hg:Gl X "isinstance") (hm:X.mg "isinstance" = none) (ha:PEd X G a f) (hc:PE X c (tC (.ty T)))
  (h1:starEach [a,c] X.env=(false,eval a X.env)::starEach [c] X.env:=by rfl) (h2:starEach [c] X.env=(false,eval c X.env)::starEach [] X.env:=by rfl) (hpl:(backTo pos (starEach [c] X.env)).any (·.1)=false:=by rfl):
  PEd X G (.Call (.Name "isinstance" p) [a,c] [] pos) (zIs T f):=
 PE.wk (iJ (zGR k) hg hm boot_isinstance (dE ha (dE hc gJ h2) h1) (by decide) (by decide) h1 hpl) fun σ H Q q=>by
 obtain ⟨ρ,Hi,R,ou⟩:=q
 refine rQ R ou fun v d Hi1 H1 e1 R1 r1 o1=>?_
 exact ⟨v,d,rfl,r1.mono R1.s,o1.here R1.s _ (.bl _)⟩
variable {lo hi:Option Expr} {l h:Ov} {p2:Pos}
def tOv (X:Cx) (G:Gx) (f:Ov):TO:=fun σ H Q=>∃ ρ Hi,fN X G Hi H σ ρ/\Out G Hi H (f ρ) fun o _ H'=>Q o H'
@[irreducible] def POd (X:Cx) (G:Gx) (e:Option Expr) (f:Ov):Prop:=PO X e (tOv X G f)
unseal POd
theorem PO.wk {X:Cx} {e:Option Expr} {t t':TO} (h:PO X e t) (w:∀ σ H Q,t' σ H Q->t σ H Q):PO X e t':=fun pins s σ H Q I q=>h pins s σ H Q I (w σ H Q q)
theorem zFA:POd X G none oN:=PO.wk zEC fun σ H Q q=>by
 obtain ⟨ρ,Hi,R,ou⟩:=q
 exact ou.here R.s
theorem zFs (he:PEd X G e f):POd X G (some e) (oS f):=PO.wk (zFe he) fun σ H Q q=>by
 obtain ⟨ρ,Hi,R,ou⟩:=q
 refine rQ R ou fun v d Hi1 H1 e1 R1 r1 o1=>?_
 cases d with
 | int i=>exact ⟨i,r1.intI,o1.here R1.s⟩
 | _=>exact o1.elim
theorem zIY {f:Ov} {Hi H:Hp} {σ:St} {ρ:Rho} {β:Type} {k:Option Int->Res β} {k':β->Hp->Hp->Prop} {Q:Option Int->Hp->Prop} (R:fN X G Hi H σ ρ) (o:Out G Hi H ((f ρ).bind k) k')
  (w:∀ c Hi' H',Ext Hi H Hi' H'->fN X G Hi' H' σ ρ->Out G Hi' H' (k c) k'->Q c H'):tOv X G f σ H Q:=
 ⟨ρ,Hi,R,o.bind.imp fun d Hi' H' e q=>w d Hi' H' e (R.grow e) q⟩
theorem zBh (n d:Nat) (i:Option Int):cut n i d=HT.sIx n d i:=by
 cases i with
 | none=>rfl
 | some i=>
  simp only [cut,HT.sIx]
  split<;>split<;>omega
theorem IsDs.cut {K:PySem.W.Frag} {H:Hp} {xs:List V} {ds:List D} (h:IsDs K H xs ds) (l r:Option Int):IsDs K H (zFG xs l r) (pJ ds l r):=by
 unfold zFG pJ
 rw [zBh,zBh,h.length]
 exact (h.drop _).take _
theorem zCm (he:PEd X G e f) (hl:POd X G lo l) (hu:POd X G hi h):PEf X G (.Subscript e (.Slice lo hi none p2) pos) (fSl f l h):=PE.wk (zCE zEM he hl hu) fun σ H Q q=>by
 obtain ⟨ρ,Hi,R,ou⟩:=q
 refine rQ R ou fun v d Hi1 H1 e1 R1 r1 o1=>?_
 refine zIY R1 o1 fun i Hi2 H2 e2 R2 o2=>?_
 refine zIY R2 o2 fun j Hi3 H3 e3 R3 o3=>?_
 cases d with
 | lst ds=>
  obtain ⟨a,xs,rfl,h1,h2⟩:=r1.lstI
  refine ⟨a,xs,rfl,bC (e2.i.trans (e3.i.trans R3.s)) h1,fun p hp=>?_⟩
  exact o3 _ _ (Ext.newF R3.s hp) p ⟨(e1.h.trans (e2.h.trans e3.h)).none hp,R3.s.none hp,_,aH,(h2.cut i j).mono (e2.i.trans e3.i)⟩
 | _=>exact o3.elim
def zIN (K:PySem.W.Frag):R2:=fun x y H Q=>∃ l b xs zs,x=.ref l/\y=.ref b/\SqL K H l xs/\SqL K H b zs/\xs.length+zs.length<=sizeLine/\∀ p,H p=none->Q (.ref p) (upd H p (.lst (xs++zs)))
theorem zEh:OpR X (binaryOp .Add) (zIN X.K):=by
 intro pins s σ H x y v u Q I rx ry h
 obtain ⟨l,b,xs,zs,rfl,rfl,hl,hb,hz,q⟩:=h
 cases rx
 cases ry
 obtain ⟨its,r,p,_⟩:=I.list hl
 obtain ⟨its2,r2,p2,_⟩:=I.list hb
 obtain ⟨⟨cls,dd,data,sl⟩,ho,hc,n,hd⟩:=id p.isList
 obtain ⟨⟨cls2,dd2,data2,sl2⟩,ho2,hc2,n2,hd2⟩:=id p2.isList
 simp only at hc hd hc2 hd2
 subst hc hd hc2 hd2
 have hsz:its.toArray.size+its2.toArray.size<=sizeLine:=by rw [List.size_toArray,List.size_toArray,<-r.length,<-r2.length];exact hz
 have e:its.toArray++its2.toArray=(its++its2).toArray:=by simp
 refine concat_meets ⟨_,ho,rfl⟩ ⟨_,ho2,rfl⟩ noFill_list_add seq_list_add PySem.F.slot_list_add PySem.F.entry_list_add (PySem.F.args_list_add_2 _ _) (list_addW l b its.toArray its2.toArray n n2 dd dd2 sl sl2 hsz) ⟨ho,ho2,?_⟩
 rw [e]
 exact ⟨.ref _,_,I.lnew (t':=s.toks) (r.append r2) (by rw [List.length_append];exact hz),rfl,q _ I.fresh⟩
theorem zHG (ha:PEd X G a f) (hb:PEd X G b g):PEf X G (.BinOp a .Add b pos) (zIi f g):=PE.wk (zBz zEh ha hb) fun σ H Q q=>by
 obtain ⟨ρ,Hi,R,ou⟩:=q
 refine rQ R ou fun v d Hi1 H1 e1 R1 r1 o1=>?_
 refine rQ R1 o1 fun w d' Hi2 H2 e2 R2 r2 o2=>?_
 cases d<;>first | exact o2.elim | skip
 cases d'<;>first | exact o2.elim | skip
 rename_i ds es
 obtain ⟨a,xs,rfl,h1,h2⟩:=r1.lstI
 obtain ⟨b,ys,rfl,h3,h4⟩:=r2.lstI
 have o2':Out G Hi2 H2 (if ds.length+es.length<=16777216 then Res.ok (ds++es) else .no) _:=o2
 by_cases hz:ds.length+es.length<=16777216
 ·rw [if_pos hz] at o2'
  refine ⟨a,b,xs,ys,rfl,rfl,bC (e2.i.trans e2.s) h1,bC e2.s h3,by rw [h2.length,h4.length];exact hz,fun p hp=>?_⟩
  exact o2' _ _ (Ext.newF e2.s hp) p ⟨(e1.h.trans e2.h).none hp,e2.s.none hp,_,aH,(h2.mono e2.i).append h4⟩
 ·rw [if_neg hz] at o2';exact o2'.elim
end
end L3
namespace L3
open PySem PySem.Spec PyProof.Rows L2
unseal PEd PEf PTd PWd PAd PSd cI POd
section
variable {X:Cx} {G:Gx} {a b e:Expr} {es:List Expr} {pos p:Pos} {f g:Ev} {fs gs:Fv} {t u:Tv} {x:Str} {st:Stmt} {rest:List Stmt} {sa sb:Sv}
theorem kJ {Hi H:Hp} {σ:St} {ρ:Rho} {E:Ends} {α:Type} {r:Res α} {k:α->Res Fl} (R:fN X G Hi H σ ρ) (h:Fin X G Hi E (r.bind k)) {Q:α->Hp->Hp->Prop}
  (w:∀ a Hi' H',r=.ok a->Ext Hi H Hi' H'->Fin X G Hi' E (k a)->Q a Hi' H'):Out G Hi H r Q:=by
 cases r with
 | no=>exact h
 | err c=>exact fun Hi' H' e=>h Hi' H' (R.ext.trans e)
 | ok a=>exact fun Hi' H' e=>w a Hi' H' rfl e (Fin.mono (show Fin X G Hi E (k a) from h) e.i)
theorem bL:cI X G [] sNext:=PSs.wk zEr fun E σ H q=>by
 obtain ⟨ρ,Hi,R,h⟩:=q
 exact h σ Hi H (Same.refl _) R
theorem zGO {E:Ends} {Hi:Hp} {ρ:Rho} (h:Fin X G Hi E (bQ sa sb ρ)):Fin X G Hi { E with nx:=tS X G sb E } (sa ρ):=by
 unfold bQ at h
 cases z:sa ρ with
 | no=>rw [z] at h;exact h
 | err c=>rw [z] at h;exact h
 | ok fl=>
  rw [z] at h
  cases fl with
  | nx ρ'=>exact fun σ' Hi' H' s R'=>⟨ρ',Hi',R',Fin.mono (show Fin X G Hi E (sb ρ') from h) s⟩
  | brk ρ'=>exact h
  | ctn ρ'=>exact h
  | ret r=>cases r<;>exact h
theorem zHf {E:Ends} {σ:St} {H:Hp} (q:tS X G (bQ sa sb) E σ H):tS X G sa { E with nx:=tS X G sb E } σ H:=by
 obtain ⟨ρ,Hi,R,h⟩:=q
 exact ⟨ρ,Hi,R,zGO h⟩
theorem aC (h1:PSd X G st sa) (h2:cI X G rest sb):cI X G (st::rest) (bQ sa sb):=PSs.wk (mV h1 h2) fun _ _ _ q=>zHf q
theorem aJ (h1:PSd X G st sa):cI X G [st] sa:=vC h1
theorem pU (he:PEd X G e f) (hs:swapsWith e none pos.line X.env=pure false:=by rfl):PSd X G (.Expr e pos) (rX f):=PS.wk (yV he hs) fun E σ H q=>by
 obtain ⟨ρ,Hi,R,h⟩:=q
 exact ⟨ρ,Hi,R,kJ R h fun d Hi' H' _ e h' v r=>h' σ Hi' H' (Same.refl _) (R.grow e)⟩
theorem dP (he:PEd X G e f):PSd X G (.Return (some e) pos) (jG f):=PS.wk (sQ he) fun E σ H q=>by
 obtain ⟨ρ,Hi,R,h⟩:=q
 obtain ⟨Hf,s1,R1,fl⟩:=R.frz
 refine ⟨ρ.map Sl.frz,Hf,R1,kJ R1 (Fin.mono h s1) fun d Hi' H' _ e h' v r=>?_⟩
 exact h' v Hi' H' (R1.ext.trans e) r
theorem iO (he:PEf X G e fs):PSd X G (.Return (some e) pos) (lS fs):=PS.wk (sQ he) fun E σ H q=>by
 obtain ⟨ρ,Hi,R,h⟩:=q
 obtain ⟨Hf,s1,R1,fl⟩:=R.frz
 refine ⟨ρ.map Sl.frz,Hf,R1,kJ R1 (Fin.mono h s1) fun ds Hi' H' _ e h' a n=>?_⟩
 obtain ⟨n1,n2,xs,n3,n4⟩:=n
 exact h' a Hi' H' (R1.ext.trans e) ⟨R1.ext.h.none n1,n2,xs,n3,n4⟩
theorem qI (i:Nat) (he:PE X e (uY i)):PSd X G (.Return (some e) pos) (jD i):=PS.wk (sQ he) fun E σ H q=>by
 obtain ⟨ρ,Hi,R,h⟩:=q
 unfold jD at h
 cases z:ρ[i]? with
 | none=>rw [z] at h;exact h.elim
 | some s=>
  rw [z] at h
  cases s with
  | own ds=>
   obtain ⟨a,xs,p,h1,h2,h3,h4⟩:=R.slot i _ z
   exact ⟨.ref a,p,h a Hi H R.ext ⟨h3,h2,xs,h1,h4⟩⟩
  | un=>exact h.elim
  | val d=>exact h.elim
  | exc c=>exact h.elim
  | tab T=>exact h.elim
  | ins c fs=>exact h.elim
theorem iM {c:Expr} {as bs:List Stmt} (hc:PTd X G c t) (ha:cI X G as sa) (hb:cI X G bs sb):PSd X G (.If c as bs pos) (sIf t sa sb):=PS.wk (zIp hc ha hb) fun E σ H q=>by
 obtain ⟨ρ,Hi,R,h⟩:=q
 refine ⟨ρ,Hi,R,kJ R h fun c Hi' H' _ e h'=>?_⟩
 cases c with
 | true=>exact ⟨ρ,Hi',R.grow e,h'⟩
 | false=>exact ⟨ρ,Hi',R.grow e,h'⟩
theorem zIM {i:Nat} {pos':Pos} (hN:X.N.Nodup) (hi:X.N[i]?=some x) (hx:Loc X.env.scope x) (he:PEd X G e f) (hs:swapsWith e (some (.Name x pos')) pos.line X.env=pure false:=by rfl)
  (hf:X.fn x=true∨X.env.scope.names.lookup x=some .local:=by first | exact .inl rfl | exact .inr rfl | assumption):PSd X G (.Assign [.Name x pos'] e pos) (dU i f):=PS.wk (zDe hN hi hx he hs hf) fun E σ H q=>by
 obtain ⟨ρ,Hi,R,h⟩:=q
 exact ⟨ρ,Hi,R,kJ R h fun d Hi' H' _ e h' v r=>h' _ Hi' H' (Same.refl _) ((R.grow e).set r)⟩
theorem zAu {i:Nat} {pos':Pos} (hN:X.N.Nodup) (hi:X.N[i]?=some x) (hx:Loc X.env.scope x) (he:PEf X G e fs) (hs:swapsWith e (some (.Name x pos')) pos.line X.env=pure false:=by rfl)
  (hf:X.fn x=true∨X.env.scope.names.lookup x=some .local:=by first | exact .inl rfl | exact .inr rfl | assumption):PSd X G (.Assign [.Name x pos'] e pos) (zET i fs):=PS.wk (zDe hN hi hx he hs hf) fun E σ H q=>by
 obtain ⟨ρ,Hi,R,h⟩:=q
 refine ⟨ρ,Hi,R,kJ R h fun ds Hi' H' _ e h' a n=>?_⟩
 obtain ⟨n1,n2,xs,n3,n4⟩:=n
 exact h' _ Hi' H' (Same.refl _) (R.setOwn e n1 n3 n2 n4)
theorem zFd {i:Nat} {o:Expr} {apos cpos:Pos} (ho:PE X o (uY i)) (he:PEd X G e f)
  (hbase:attributeBase o "append" X.env (eval o X.env)=eval o X.env:=by rfl)
  (hfew:((backTo cpos (starEach [e] X.env)).all (fun x=>!x.1) && (backToKw cpos (keywordEach [] X.env)).all (fun x=>x.1.isSome)
   && decide ([e].length+([]:List Keyword).length+(if ([]:List Keyword).isEmpty then 0 else 1) < 30))=true:=by rfl)
  (hline:(apos.endLine==cpos.line)=true:=by rfl) (hs:starEach [e] X.env=(false,eval e X.env)::starEach [] X.env:=by rfl)
  (hsw:swapsWith (.Call (.Attribute o "append" apos) [e] [] cpos) none pos.line X.env=pure false:=by rfl):
  PSd X G (.Expr (.Call (.Attribute o "append" apos) [e] [] cpos) pos) (zEX i f):=
 PS.wk (yV (zCL PySem.F.plainAttrs_list PySem.F.slot_list_append PySem.F.type_list_append jL ho (dE he gJ hs) hbase hfew hline hs) hsw) fun E σ H q=>by
 obtain ⟨ρ,Hi,R,h⟩:=q
 unfold zEX at h
 cases z:ρ[i]? with
 | none=>rw [z] at h;exact h.elim
 | some s=>
  rw [z] at h
  cases s with
  | own ds=>
   obtain ⟨a,xs,p,h1,h2,h3,h4⟩:=R.slot i _ z
   refine ⟨.ref a,p,.inl ⟨rfl,xs,SqL.of h1⟩,?_⟩
   refine ⟨ρ,Hi,R,kJ R h fun d Hi' H' _ e h' v r=>?_⟩
   have R':=R.grow e
   obtain ⟨g1,g2⟩:=e.out h1 h2
   by_cases hz:ds.length < 16777216
   ·rw [if_pos hz] at h'
    refine ⟨a,xs,v,rfl,rfl,g1,by rw [h4.length];exact hz,?_⟩
    exact h' σ Hi' _ (Same.refl _) (R'.write z p ((h4.mono e.i).append (.cons r .nil)))
   ·rw [if_neg hz] at h';exact h'.elim
  | un=>exact h.elim
  | val d=>exact h.elim
  | exc c=>exact h.elim
  | tab T=>exact h.elim
  | ins c fs=>exact h.elim
theorem zEa {i:Nat} {o k:Expr} {fk:Ev} {tpos:Pos} (ho:PE X o (uY i)) (hk:PEd X G k fk) (he:PEd X G e f) (hs:swapsWithSole [.Subscript o k tpos] e pos.line X.env=pure false:=by rfl) (hw:swappedStores [.Subscript o k tpos] e X.env=pure none:=by rfl)
  (h1:(assignEach [.Subscript o k tpos] X.env).map (·.2)=[assign (.Subscript o k tpos) X.env]:=by rfl)
  (ha:∀ v,assign (.Subscript o k tpos) X.env v=(do
   let ov <-holding [v] (eval o X.env)
   let iv <-holding [v,ov] (eval k X.env)
   standAt tpos
   holding [v,ov,iv] (setItem ov iv v)
   release [v,ov,iv] []):=by intro _;rfl):PSd X G (.Assign [.Subscript o k tpos] e pos) (zFK i fk f):=
 PS.wk (zGf he (zGd ho hk zCP ha) hs hw h1) fun E σ H q=>by
 obtain ⟨ρ,Hi,R,h⟩:=q
 refine ⟨ρ,Hi,R,kJ R h fun d Hi1 H1 _ e1 h1 v r=>?_⟩
 have R1:=R.grow e1
 cases z:ρ[i]? with
 | none=>rw [z] at h1;exact h1.elim
 | some s=>
  rw [z] at h1
  cases s with
  | own ds=>
   obtain ⟨a,xs,p,g1,g2,g3,g4⟩:=R1.slot i _ z
   refine ⟨.ref a,p,?_⟩
   refine ⟨ρ,Hi1,R1,kJ R1 h1 fun j Hi2 H2 _ e2 h2 w rw'=>?_⟩
   have R2:=R1.grow e2
   obtain ⟨k1,k2⟩:=e2.out g1 g2
   cases j with
   | int j=>
    have hl:=g4.length
    have h2':Fin X G Hi2 E (if 0<=j/\j < ds.length then Res.ok (.nx (ρ.set i (.own (ds.set j.toNat d)))) else if -(ds.length:Int)<=j/\j < 0 then .ok (.nx (ρ.set i (.own (ds.set (j+ds.length).toNat d)))) else .no):=h2
    by_cases c1:0<=j/\j < ds.length
    ·rw [if_pos c1] at h2'
     refine ⟨a,xs,j,j.toNat,rfl,rw'.intI,k1,by unfold ixN;rw [if_pos c1.1,if_pos (by omega)],?_⟩
     exact h2' σ Hi2 _ (Same.refl _) (R2.write z p ((g4.mono e2.i).set (r.mono e2.i) j.toNat))
    ·rw [if_neg c1] at h2'
     by_cases c2:-(ds.length:Int)<=j/\j < 0
     ·rw [if_pos c2] at h2'
      refine ⟨a,xs,j,(j+ds.length).toNat,rfl,rw'.intI,k1,by unfold ixN;rw [if_neg (by omega),if_pos (by omega),hl],?_⟩
      exact h2' σ Hi2 _ (Same.refl _) (R2.write z p ((g4.mono e2.i).set (r.mono e2.i) (j+ds.length).toNat))
     ·rw [if_neg c2] at h2';exact h2'.elim
   | _=>exact h2.elim
  | un=>exact h1.elim
  | val d=>exact h1.elim
  | exc c=>exact h1.elim
  | tab T=>exact h1.elim
  | ins c fs=>exact h1.elim
theorem zIg {i:Nat} {op:Operator} {o:Op2} {r:Int->Int->Int} {pos':Pos} (hN:X.N.Nodup) (hi:X.N[i]?=some x) (hx:Loc X.env.scope x) (he:PEd X G e f) (ho:PIp X op (ipI r)) (hr:∀ a b d,o a b=.ok d->∃ i j,a=.int i/\b=.int j/\d=.int (r i j)) (hn:∀ a b c,o a b≠.err c)
  (hf:X.fn x=true∨X.env.scope.names.lookup x=some .local:=by first | exact .inl rfl | exact .inr rfl | assumption):PSd X G (.AugAssign (.Name x pos') op e pos) (zGX i o f):=PS.wk (zHM hN hi hx he ho hf) fun E σ H q=>by
 obtain ⟨ρ,Hi,R,h⟩:=q
 unfold zGX at h
 cases z:ρ[i]? with
 | none=>rw [z] at h;exact h.elim
 | some s=>
  rw [z] at h
  cases s with
  | val d=>
   obtain ⟨v,p,rv⟩:=R.slot i _ z
   refine ⟨v,p,ρ,Hi,R,kJ R h fun d' Hi' H' _ e h' w rw'=>?_⟩
   cases q:o d d' with
   | no=>rw [q] at h';exact h'.elim
   | err c=>exact absurd q (hn _ _ _)
   | ok u=>
    rw [q] at h'
    obtain ⟨i',j',rfl,rfl,rfl⟩:=hr _ _ _ q
    exact ⟨i',j',rv.intI,rw'.intI,h' _ Hi' H' (Same.refl _) ((R.grow e).set (.int _))⟩
  | un=>exact h.elim
  | own ds=>exact h.elim
  | exc c=>exact h.elim
  | tab T=>exact h.elim
  | ins c fs=>exact h.elim
theorem cI.frzAt (i:Nat) {sts:List Stmt} (h:cI X G sts sa):cI X G sts (sFrzAt i sa):=PSs.wk h fun E σ H q=>by
 obtain ⟨ρ,Hi,R,h⟩:=q
 obtain ⟨Hi',s,R'⟩:=R.frzAt (i:=i)
 exact ⟨_,Hi',R',Fin.mono h s⟩
def tGv (X:Cx) (G:Gx) (g:Gv):TG:=fun v σ H Q=>∃ d ρ Hi,IsD X.K Hi v d/\fN X G Hi H σ ρ/\∃ ρ',g d ρ=.ok ρ'/\∀ σ' Hi' H',Same Hi Hi'->fN X G Hi' H' σ' ρ'->Q σ' H'
@[irreducible] def PGd (X:Cx) (G:Gx) (e:Expr) (g:Gv):Prop:=PG X e (tGv X G g)
unseal PGd
theorem zHe {i:Nat} (hN:X.N.Nodup) (hi:X.N[i]?=some x) (hx:Loc X.env.scope x) (hf:X.fn x=true∨X.env.scope.names.lookup x=some .local:=by first | exact .inl rfl | exact .inr rfl | assumption):PGd X G (.Name x pos) (gName i):=
 fun pins s σ H v u Q I r q=>uJ hN hi hx hf pins s σ H v u Q I r (by
  obtain ⟨d,ρ,Hi,rd,R,ρ',e,k⟩:=q
  cases e
  exact k _ Hi H (Same.refl _) (R.set rd))
def zJu (X:Cx) (G:Gx) (g:List D->Rho->Res Rho):TGs:=fun vs σ H Q=>∃ ds ρ Hi,IsDs X.K Hi vs ds/\fN X G Hi H σ ρ/\∃ ρ',g ds ρ=.ok ρ'/\∀ σ' Hi' H',Same Hi Hi'->fN X G Hi' H' σ' ρ'->Q σ' H'
@[irreducible] def eA (X:Cx) (G:Gx) (es:List Expr) (g:List D->Rho->Res Rho):Prop:=PGs X es (zJu X G g)
unseal eA
def oM (K:PySem.W.Frag) (Hi:Hp) (J:It) (ds:List D):Prop:=∀ (Hi1 H1:Hp),Same Hi Hi1->Same Hi1 H1->∀ i,
 (ds.length<=i->J.stop i H1)/\∀ d,ds[i]?=some d->J.go i H1/\∀ x H2,J.yld i H1 x H2->∃ Hi2,Ext Hi1 H1 Hi2 H2/\IsD K Hi2 x d
def tIv (X:Cx) (G:Gx) (f:Fv):TI:=fun σ H R=>∃ ρ Hi,fN X G Hi H σ ρ/\Out G Hi H (f ρ) fun ds Hi' H'=>∀ J,oM X.K Hi' J ds->R J H'
@[irreducible] def PId (X:Cx) (G:Gx) (tg e:Expr) (f:Fv):Prop:=PI X tg e (tIv X G f)
unseal PId
theorem PI.wk {tg:Expr} {t t':TI} (h:PI X tg e t) (w:∀ σ H Q,t' σ H Q->t σ H Q):PI X tg e t':=fun pins s σ H Q I q=>h pins s σ H Q I (w σ H Q q)
theorem zDF {g:Gv} {J:It} {ds:List D} {Hi1 H1:Hp} {σ:St} {ρ:Rho} {E:Ends} (hge:∀ d ρ c,g d ρ≠.err c) (R1:fN X G Hi1 H1 σ ρ) (h1:Fin X G Hi1 E (dX g sa ds ρ)) (gv:oM X.K Hi1 J ds):zJf (fun _ _ R=>R J H1) (tGv X G g) (tS X G sa) E σ H1:=by
 refine ⟨fun i m σ' H'=>m=ds.length - i/\∃ ρ' Hi',Same Hi1 Hi'/\fN X G Hi' H' σ' ρ'/\Fin X G Hi' E (dX g sa (ds.drop i) ρ'),⟨_,rfl,ρ,Hi1,Same.refl _,R1,h1⟩,?_⟩
 rintro i m σ' H' ⟨rfl,ρ',Hi',s',R',h'⟩
 obtain ⟨w1,w2⟩:=gv Hi' H' s' R'.s i
 by_cases hl:i < ds.length
 ·obtain ⟨d,hd⟩:∃ d,ds[i]?=some d:=⟨_,List.getElem?_eq_getElem hl⟩
  obtain ⟨go,yl⟩:=w2 d hd
  have e3:ds.drop i=d::ds.drop (i+1):=by
   rw [List.getElem?_eq_getElem hl] at hd
   cases hd
   exact List.drop_eq_getElem_cons hl
  rw [e3] at h'
  refine .inr ⟨go,fun σ2 H2=>∃ ρ2 Hi2,Same Hi1 Hi2/\fN X G Hi2 H2 σ2 ρ2/\Fin X G Hi2 E (dX g sa (ds.drop (i+1)) ρ2),fun σ2 H2 z=>⟨ds.length - (i+1),by omega,rfl,z⟩,fun x H2 y=>?_⟩
  obtain ⟨Hi2,e2,r2⟩:=yl x H2 y
  have R2:=R'.grow e2
  have h2:Fin X G Hi2 E ((g d ρ').bind fun ρ1=>(sa ρ1).bind fun f=>match f with
   | .nx ρ2=>dX g sa (ds.drop (i+1)) ρ2
   | .ctn ρ2=>dX g sa (ds.drop (i+1)) ρ2
   | .brk ρ2=>.ok (.nx ρ2)
   | .ret r=>.ok (.ret r)):=Fin.mono h' e2.i
  cases z:g d ρ' with
  | no=>rw [z] at h2;exact h2.elim
  | err c=>exact absurd z (hge _ _ _)
  | ok ρ1=>
   rw [z] at h2
   refine ⟨d,ρ',Hi2,r2,R2,ρ1,z,fun σ3 Hi3 H3 s3 R3=>⟨ρ1,Hi3,R3,?_⟩⟩
   have h3:=Fin.mono h2 s3
   have sm:Same Hi1 Hi3:=(s'.trans e2.i).trans s3
   simp only [Res.bind] at h3
   cases zb:sa ρ1 with
   | no=>rw [zb] at h3;exact h3.elim
   | err c=>rw [zb] at h3;exact h3
   | ok fl=>
    rw [zb] at h3
    cases fl with
    | nx ρ2=>exact fun σ4 Hi4 H4 s4 R4=>⟨ρ2,Hi4,sm.trans s4,R4,Fin.mono (show Fin X G Hi3 E (dX g sa (ds.drop (i+1)) ρ2) from h3) s4⟩
    | ctn ρ2=>exact fun σ4 Hi4 H4 s4 R4=>⟨ρ2,Hi4,sm.trans s4,R4,Fin.mono (show Fin X G Hi3 E (dX g sa (ds.drop (i+1)) ρ2) from h3) s4⟩
    | brk ρ2=>exact h3
    | ret r=>cases r<;>exact h3
 ·rw [List.drop_eq_nil_of_le (by omega)] at h'
  exact .inl ⟨w1 (by omega),h' σ' Hi' H' (Same.refl _) R'⟩
theorem xJ {tg iter:Expr} {body:List Stmt} {it:Fv} {g:Gv} (hp:PassesOwn (model X.prog X.w) X.A X.env X.xe) (hc:X.calm=true) (hi:PId X G tg iter it) (hg:PGd X G tg g) (hge:∀ d ρ c,g d ρ≠.err c) (hb:cI X G body sa)
  (hs:∀ x,foldedSetIterable iter X.env x=pure x:=by intro _;rfl):PSd X G (.For tg iter body [] pos) (zCn it g sa):=PS.wk (zDf hp hc hi hg hb hs) fun E σ H q=>by
 obtain ⟨ρ,Hi,R,h⟩:=q
 exact ⟨ρ,Hi,R,kJ R h fun ds Hi1 H1 _ e1 h1 J gv=>zDF hge (R.grow e1) h1 gv⟩
theorem zAD {c:Expr} {body:List Stmt} (hp:PassesOwn (model X.prog X.w) X.A X.env X.xe) (hc:PTd X G c t) (hb:cI X G body sa):PSd X G (.While c body [] pos) (dI t sa):=PS.wk (zCF hp hc hb) fun E σ H q=>by
 obtain ⟨ρ,Hi,R,h⟩:=q
 have hn:dI t sa ρ≠.no:=fun z=>by rw [z] at h;exact h
 obtain ⟨n,en⟩:=jB hn
 rw [en] at h
 refine ⟨fun m σ' H'=>∃ ρ' Hi',Same Hi Hi'/\fN X G Hi' H' σ' ρ'/\Fin X G Hi' E (wh t sa m ρ'),⟨n,ρ,Hi,Same.refl _,R,h⟩,?_⟩
 rintro m σ' H' ⟨ρ',Hi',s',R',h'⟩
 cases m with
 | zero=>exact h'.elim
 | succ m=>
  rw [wh] at h'
  refine ⟨ρ',Hi',R',kJ R' h' fun c Hi1 H1 _ e1 h1=>?_⟩
  have R1:=R'.grow e1
  cases c with
  | false=>exact h1 σ' Hi1 H1 (Same.refl _) R1
  | true=>
   refine ⟨fun σ2 H2=>∃ ρ2 Hi2,Same Hi Hi2/\fN X G Hi2 H2 σ2 ρ2/\Fin X G Hi2 E (wh t sa m ρ2),fun σ2 H2 z=>⟨m,by omega,z⟩,ρ',Hi1,R1,?_⟩
   have sm:Same Hi Hi1:=s'.trans e1.i
   simp only [if_true] at h1
   cases zb:sa ρ' with
   | no=>rw [zb] at h1;exact h1.elim
   | err c=>rw [zb] at h1;exact h1
   | ok fl=>
    rw [zb] at h1
    cases fl with
    | nx ρ2=>exact fun σ4 Hi4 H4 s4 R4=>⟨ρ2,Hi4,sm.trans s4,R4,Fin.mono (show Fin X G Hi1 E (wh t sa m ρ2) from h1) s4⟩
    | ctn ρ2=>exact fun σ4 Hi4 H4 s4 R4=>⟨ρ2,Hi4,sm.trans s4,R4,Fin.mono (show Fin X G Hi1 E (wh t sa m ρ2) from h1) s4⟩
    | brk ρ2=>exact h1
    | ret r=>cases r<;>exact h1
theorem zAY {K:PySem.W.Frag} {Hi:Hp} {a:Addr} {xs:List V} {ds:List D} (h:SqT K Hi a xs) (hs:IsDs K Hi xs ds):oM K Hi (Itt K a) ds:=fun Hi1 H1 s1 s2 i=>by
 have h1:=bY (s1.trans s2) h
 refine ⟨fun hl=>⟨xs,h1,by rw [hs.length];exact hl⟩,fun d hd=>?_⟩
 obtain ⟨v,hv,r⟩:=hs.at hd
 refine ⟨⟨xs,v,h1,hv⟩,fun x H2 y=>?_⟩
 obtain ⟨e,y⟩:=y
 subst e
 have:=y xs h1
 rw [hv] at this
 cases this
 exact ⟨Hi1,Ext.refl s2,r.mono s1⟩
theorem zEe {lo c:Int} {n i:Nat} {d:D} (h:(rng lo n c)[i]?=some d):i < n/\d=.int (lo+(i:Int) * c):=by
 unfold rng at h
 rw [List.getElem?_map] at h
 by_cases hl:i < n
 ·rw [List.getElem?_range hl] at h;cases h;exact ⟨hl,rfl⟩
 ·rw [List.getElem?_eq_none (by rw [List.length_range];omega)] at h;cases h
theorem zFu (lo c:Int) (n:Nat):(rng lo n c).length=n:=by unfold rng;rw [List.length_map,List.length_range]
theorem zAr {K:PySem.W.Frag} {Hi:Hp} (lo:Int) (n:Nat):oM K Hi (Itr lo n) (rng lo n 1):=fun Hi1 H1 s1 s2 i=>by
 refine ⟨fun hl=>by rw [zFu] at hl;exact hl,fun d hd=>?_⟩
 obtain ⟨h1,rfl⟩:=zEe hd
 refine ⟨h1,fun x H2 y=>?_⟩
 obtain ⟨e,y⟩:=y
 subst e y
 rw [Int.mul_one]
 exact ⟨Hi1,Ext.refl s2,.int _⟩
theorem zCY {tg:Expr} (hg:Gl X "range") (hm:X.mg "range" = none) (ha:PAd X G [a] fs) (hs:starEach [a] X.env=[(false,eval a X.env)]:=by rfl):PId X G tg (.Call (.Name "range" p) [a] [] pos) (vE fs):=PI.wk (zBI hg hm ha hs) fun σ H Q q=>by
 obtain ⟨ρ,Hi,R,ou⟩:=q
 refine zBP R ou fun vs ds Hi1 H1 e1 R1 r1 o1=>?_
 split at o1
 ·rename_i j
  obtain ⟨v,rfl,h⟩:=r1.one
  by_cases hz:-(2^62)<=j/\j < 2^62
  ·rw [if_pos hz] at o1
   exact ⟨j,by rw [h.intI],hz.1,hz.2,o1.here R1.s _ (zAr 0 j.toNat)⟩
  ·rw [if_neg hz] at o1;exact o1.elim
 ·exact o1.elim
end
end L3
namespace L3
open PySem PySem.Spec PyProof.Rows L2
unseal PEd PEf PTd PWd PAd PSd cI POd PGd eA PId
structure Fn (K:PySem.W.Frag) (mg:Str->Option Value) (x:Str) (st:Stmt) (ps:List Str) (f:Addr) (fd:FuncData):Prop where
 fn:Fun K x x st f fd
 bd:sO K fd ps []
 kp:PySem.W.keepIn K (.ref f)=true
 mg:mg x=some (.ref f)
def XE (X:Cx) (G:Gx):XK:=fun cls _ H=>∃ c,X.mg c=some cls/\G.E c H
def jZ (K:PySem.W.Frag) (mg:Str->Option Value) (P:Addr):Prop:=∃ f oc od fd osl c,mg "ranked" = some (.ref f)/\K.lookup f=some ⟨oc,od,.func fd,osl⟩/\fd.code=.ref c/\∀ h,K.In h->PySem.W.CodeHd h c P
def TB (K:PySem.W.Frag) (mg:Str->Option Value) (Hi H:Hp):Prop:=∀ P,jZ K mg P->sD P H/\Hi P=none
theorem TB.ext {K:PySem.W.Frag} {mg:Str->Option Value} {Hi H Hi' H':Hp} (t:TB K mg Hi H) (e:Ext Hi H Hi' H'):TB K mg Hi' H':=fun P h=>⟨e.h.t P (t P h).1,by
 cases z:Hi' P with
 | none=>rfl
 | some o=>
  obtain ⟨⟨ps,q,_⟩,n⟩:=t P h
  have:=e.n P n (by rw [z];exact fun w=>by cases w)
  rw [q] at this;cases this⟩
structure Good (X:Cx) (G:Gx) (k:Nat):Prop where
 calm:X.calm=true
 room:Room k X.A
 pass:wJ (CX1 X.prog X.w) X (XE X G)
 own:PassesOwn (model X.prog X.w) X.A X.env X.xe
 tb:TB X.K X.mg G.Bi G.B
def xS (X:Cx) (G:Gx):Prop:=∀ (pins:List (Addr×Obj)) (σ:St) (H:Hp) (s s':Shared) (ea:Addr) (cls:Value) (vs:List Value),Inv X pins σ H s->Heap.MadeExcOf s.heap s'.heap ea cls vs->s'.os=s.os->AllBare s'.gens->XE X G cls none H->X.xe (.ref ea) s'
def spM (K:PySem.W.Frag) (mg:Str->Option Value) (p:Nat) (m:Mir):Sp:=fun vs H Q E=>vs.length=p/\∃ Bi ds,TB K mg Bi H/\Same Bi H/\IsDs K Bi vs ds/\match m ds with
 | .ok (.v d)=>∀ v Hi' H',Ext Bi H Hi' H'->IsD K Hi' v d->Q v H'
 | .ok (.f es)=>∀ a Hi' H',Ext Bi H Hi' H'->zAJ K H Hi' H' a es->Q (.ref a) H'
 | .err c=>∀ C,mg c=some C->∀ Hi' H',Ext Bi H Hi' H'->E C none H'
 | .no=>False
structure CanM (P:Program) (w:World) (K:PySem.W.Frag) (mg:Str->Option Value) (base:Heap) (k:Nat) (x:Str) (ps:List Str) (m:Mir):Prop where
 ex:∃ f fd,FnOk P w K mg base (CX1 P w) k f fd ps (spM K mg ps.length m)/\sO K fd ps []/\PySem.W.keepIn K (.ref f)=true/\mg x=some (.ref f)
 ln:∀ ds,m ds≠.no->ds.length=ps.length
theorem Good.u {X:Cx} {G:Gx} {k:Nat} (W:Good X G k):X.A.units+64 < cLine:=W.room.units
theorem CanM.mono {P:Program} {w:World} {K:PySem.W.Frag} {mg:Str->Option Value} {base:Heap} {j k:Nat} {x:Str} {ps:List Str} {m:Mir} (c:CanM P w K mg base j x ps m) (h:j<=k):CanM P w K mg base k x ps m:=by
 obtain ⟨⟨f,fd,F,r⟩,l⟩:=c
 exact ⟨⟨f,fd,F.mono h,r⟩,l⟩
section
variable {X:Cx} {G:Gx} {a b e:Expr} {es:List Expr} {pos p:Pos} {f g:Ev} {fs gs:Fv} {t u:Tv} {x:Str} {st:Stmt} {rest:List Stmt} {sa sb:Sv} {k:Nat} {ps:List Str} {m:Mir}
theorem zHI {ps:List Str} (tb:TB X.K X.mg G.Bi G.B) (ln:∀ ds,m ds≠.no->ds.length=ps.length):∀ σ H Q,tD X G (bE m fs) σ H Q->zFm (spM X.K X.mg ps.length m) [] (XE X G) (tAs X G fs) σ H Q:=fun σ H Q q=>by
 obtain ⟨ρ,Hi,R,ou⟩:=q
 refine zBP R ou fun vs ds Hi1 H1 e1 R1 r1 o1=>?_
 rw [List.append_nil]
 have hm:m ds≠.no:=fun z=>by rw [z] at o1;exact o1
 refine ⟨by rw [r1.length];exact ln ds hm,Hi1,ds,tb.ext R1.ext,R1.s,r1,?_⟩
 cases z:m ds with
 | no=>exact absurd z hm
 | err c=>rw [z] at o1;exact fun C hC Hi2 H2 e2=>⟨c,hC,o1 Hi2 H2 e2⟩
 | ok r=>
  rw [z] at o1
  cases r with
  | v d=>exact fun v Hi2 H2 e2 r2=>o1 Hi2 H2 e2 v r2
  | f ds=>
   intro a Hi2 H2 e2 n
   obtain ⟨n1,n2,xs,n3,n4⟩:=n
   exact o1 _ _ (e2.hold n1 n3 n2) (.ref a) (.lst (SqL.of aH) (n4.mono (cA n2 _)))
theorem aK (W:Good X G k) (c:CanM X.prog X.w X.K X.mg X.base k x ps m) (hg:Gl X x) (ha:PAd X G (e::es) fs)
  (hdb:(x==("__debug__" : Str))=false:=by decide) (he:starEach (e::es) X.env=(false,eval e X.env)::starEach es X.env:=by rfl) (hpl:(backTo pos (starEach es X.env)).any (·.1)=false:=by rfl):
  PEd X G (.Call (.Name x p) (e::es) [] pos) (bE m fs):=by
 obtain ⟨⟨f,fd,F,b,kp,hm⟩,ln⟩:=c
 exact PE.wk (uZ F W.room hg hm kp b .nil W.pass ha hdb he hpl) (zHI W.tb ln)
theorem zFB {ps:List Str} (tb:TB X.K X.mg G.Bi G.B) (ln:∀ ds,m ds≠.no->ds.length=ps.length):∀ σ H Q,tF X G (jI m fs) σ H Q->zFm (spM X.K X.mg ps.length m) [] (XE X G) (tAs X G fs) σ H Q:=fun σ H Q q=>by
 obtain ⟨ρ,Hi,R,ou⟩:=q
 refine zBP R ou fun vs ds Hi1 H1 e1 R1 r1 o1=>?_
 rw [List.append_nil]
 have hm:m ds≠.no:=fun z=>by rw [z] at o1;exact o1
 refine ⟨by rw [r1.length];exact ln ds hm,Hi1,ds,tb.ext R1.ext,R1.s,r1,?_⟩
 cases z:m ds with
 | no=>exact absurd z hm
 | err c=>rw [z] at o1;exact fun C hC Hi2 H2 e2=>⟨c,hC,o1 Hi2 H2 e2⟩
 | ok r=>
  rw [z] at o1
  cases r with
  | v d=>exact o1.elim
  | f ds=>exact fun a Hi2 H2 e2 n=>o1 Hi2 H2 e2 a ⟨e1.h.none n.1,n.2⟩
theorem gB (W:Good X G k) (c:CanM X.prog X.w X.K X.mg X.base k x ps m) (hg:Gl X x) (ha:PAd X G (e::es) fs)
  (hdb:(x==("__debug__" : Str))=false:=by decide) (he:starEach (e::es) X.env=(false,eval e X.env)::starEach es X.env:=by rfl) (hpl:(backTo pos (starEach es X.env)).any (·.1)=false:=by rfl):
  PEf X G (.Call (.Name x p) (e::es) [] pos) (jI m fs):=by
 obtain ⟨⟨f,fd,F,b,kp,hm⟩,ln⟩:=c
 exact PE.wk (uZ F W.room hg hm kp b .nil W.pass ha hdb he hpl) (zFB W.tb ln)
theorem nL {d:D} (hg:Gl X x) (h:∃ v u',X.mg x=some u'/\cD v u'/\IsD X.K (fun _=>none) v d) (hdb:(x==("__debug__" : Str))=false:=by decide):PEd X G (.Name x pos) (eC d):=by
 obtain ⟨v,u',hm,r,hd⟩:=h
 exact fO (uV hg hm r hdb) fun H=>hd.mono fun b o z=>by cases z
end
abbrev BX (P:Program) (w:World) (K:PySem.W.Frag) (mg:Str->Option Value) (base:Heap) (N:List Str) (x:Str) (st:Stmt) (f:Addr) (cdv:Value) (A:Around) (outer:List Env) (s:Shared) (H:Hp) (E:XK):Cx:=
 xG (CX1 P w) P w K mg base N x (aD st) f cdv A outer s H E
theorem sB {K:PySem.W.Frag} {mg:Str->Option Value} {Bi H:Hp} {N:List Str} {vs:List V} {ds:List D} (s:Same Bi H) (h:IsDs K Bi vs ds):Rel K mg H Bi Bi H (L2.start N vs) (L3.start N.length ds) where
 len:=by
  unfold L2.start L3.start
  rw [List.length_append,List.length_append,List.length_map,List.length_map,List.length_replicate,List.length_replicate,h.length]
 ext:=Ext.refl s
 slot:=fun i sl e=>by
  unfold L3.start at e
  by_cases hi:i < ds.length
  ·rw [List.getElem?_append_left (by rw [List.length_map];exact hi),List.getElem?_map] at e
   obtain ⟨d,hd⟩:∃ d,ds[i]?=some d:=⟨_,List.getElem?_eq_getElem hi⟩
   rw [hd] at e;cases e
   obtain ⟨v,hv,r⟩:=h.at hd
   refine ⟨v,?_,r⟩
   unfold L2.start
   rw [List.getElem?_append_left (by rw [List.length_map,h.length];exact hi),List.getElem?_map,hv]
   rfl
  ·rw [List.getElem?_append_right (by rw [List.length_map];omega),List.getElem?_replicate] at e
   split at e
   ·cases e;trivial
   ·cases e
 dist:=fun i j a es fs e _ _ _=>by
  exfalso
  unfold L3.start at e
  by_cases hi:i < ds.length
  ·rw [List.getElem?_append_left (by rw [List.length_map];exact hi),List.getElem?_map] at e
   cases z:ds[i]? with
   | none=>rw [z] at e;cases e
   | some d=>rw [z] at e;cases e
  ·rw [List.getElem?_append_right (by rw [List.length_map];omega),List.getElem?_replicate] at e
   split at e<;>cases e
section
variable {P:Program} {w:World} {K:PySem.W.Frag} {mg:Str->Option Value} {base:Heap} {N ps:List Str} {x:Str} {st:Stmt} {f:Addr} {fd:FuncData} {k:Nat} {b:Sv}
theorem zAQ {cdv:Value} {A:Around} {outer:List Env} {s:Shared} {H Bi:Hp} {E:XK} (hr:Room k (A.deeper (envOfC x (aD st) s.heap.objs.size f cdv))) (tb:TB K mg Bi H):
  Good (BX P w K mg base N x st f cdv A outer s H E) ⟨H,Bi,fun c H'=>∀ C,mg c=some C->E C none H'⟩ k where
 calm:=rfl
 room:=hr
 pass:=zII fun c H' q=>by
  obtain ⟨c',h1,h2⟩:=q
  exact h2 c h1
 own:=PassesOwn.leaving
 tb:=tb
theorem wA {cdv:Value} {A:Around} {outer:List Env} {s:Shared} {H Bi:Hp} {E:XK}:
  xS (BX P w K mg base N x st f cdv A outer s H E) ⟨H,Bi,fun c H'=>∀ C,mg c=some C->E C none H'⟩:=fun pins σ H1 s1 s' ea cls vs I hx hos hg q=>by
 obtain ⟨c',h1,h2⟩:=q
 exact uO I hx hos hg (h2 cls h1)
theorem zHD (F:Fn K mg x st ps f fd) (S:FnScope N ps (aD st))
  (h:∀ (cdv:Value) (A:Around) (outer:List Env) (s:Shared) (H:Hp) (E:XK) (G:Gx),Good (BX P w K mg base N x st f cdv A outer s H E) G k->xS (BX P w K mg base N x st f cdv A outer s H E) G->cI (BX P w K mg base N x st f cdv A outer s H E) G (dD st) b):
  FnOk P w K mg base (CX1 P w) (k+1) f fd ps (spM K mg ps.length (fn ps.length N.length b)):=by
 obtain ⟨oc,od,kV,doc,pm,an,cdv,ct,osl,rfl,lk,hcd⟩:=F.fn.ex
 refine zGl lk hcd S (fun vs H Q E h=>h.1) fun A outer s H vs Q E hr hsp=>?_
 obtain ⟨hl,Bi,ds,tb,sm,hd,hq⟩:=hsp
 have hg:=zAQ (P:=P) (w:=w) (K:=K) (mg:=mg) (base:=base) (N:=N) (outer:=outer) (H:=H) (Bi:=Bi) (E:=E) hr tb
 refine ⟨_,h cdv A outer s H E _ hg wA,L3.start N.length ds,Bi,sB sm hd,?_⟩
 have hlen:ds.length=ps.length:=by rw [<-hd.length];exact hl
 unfold fn at hq
 rw [if_pos hlen] at hq
 cases z:b (L3.start N.length ds) with
 | no=>rw [z] at hq;exact hq
 | err c=>rw [z] at hq;exact fun Hi' H' e C hC=>hq C hC Hi' H' e
 | ok fl=>
  rw [z] at hq
  cases fl with
  | nx ρ'=>exact fun σ' Hi' H' s R=>hq .non Hi' H' R.ext .non
  | brk ρ'=>exact hq.elim
  | ctn ρ'=>exact hq.elim
  | ret r=>
   cases r with
   | v d=>exact hq
   | f es=>exact hq
theorem zAV (F:Fn K mg x st ps f fd) (S:FnScope N ps (aD st))
  (h:∀ (cdv:Value) (A:Around) (outer:List Env) (s:Shared) (H:Hp) (E:XK) (G:Gx),Good (BX P w K mg base N x st f cdv A outer s H E) G k->xS (BX P w K mg base N x st f cdv A outer s H E) G->cI (BX P w K mg base N x st f cdv A outer s H E) G (dD st) b):
  CanM P w K mg base (k+1) x ps (fn ps.length N.length b):=by
 refine ⟨⟨f,fd,zHD F S h,F.bd,F.kp,F.mg⟩,fun ds hm=>?_⟩
 unfold fn at hm
 split at hm
 ·assumption
 ·exact absurd rfl hm
end
end L3
namespace L3
open PySem PySem.Spec PyProof.Rows L2
unseal PEd PEf PTd PWd PAd PSd cI POd PGd eA PId
section
variable {X:Cx} {G:Gx} {a b e:Expr} {es:List Expr} {pos p:Pos} {f g:Ev} {fs gs:Fv} {t u:Tv} {x:Str} {st:Stmt} {rest:List Stmt} {sa sb:Sv} {k:Nat}
theorem PTd.frz (h:PTd X G e t):PTd X G e (tFrzB t):=PT.wk h fun σ H Q q=>by
 obtain ⟨ρ,Hi,R,ou⟩:=q
 obtain ⟨Hf,s1,R1,fl⟩:=R.frz
 refine ⟨ρ.map Sl.frz,Hf,R1,?_⟩
 unfold tFrzB at ou
 cases z:t (ρ.map Sl.frz) with
 | no=>rw [z] at ou;exact ou
 | err c=>
  rw [z] at ou
  intro Hi1 H1 e1
  obtain ⟨Ht,e2,k,s2,n⟩:=Ext.thaw s1 fl R1.s e1
  exact ou Ht H1 e2
 | ok c=>
  rw [z] at ou
  intro Hi1 H1 e1
  obtain ⟨Ht,e2,k,s2,n⟩:=Ext.thaw s1 fl R1.s e1
  exact ou Ht H1 e2
def iSq (K:PySem.W.Frag) (tl:TE):TI:=fun σ H R=>tl σ H fun x H1=>∃ a,x=.ref a/\(((∃ xs,SqL K H1 a xs)/\R (Itl K a) H1)∨((∃ xs,SqT K H1 a xs)/\R (Itt K a) H1))
theorem zGG {tg l:Expr} {tl:TE} (hl:PE X l tl):PI X tg l (iSq X.K tl):=by
 intro pins s σ H R I h
 refine thn (hl pins s σ H _ I h) fun v s1 ⟨x,H1,I1,r1,q1⟩=>?_
 obtain ⟨a,e,q1⟩:=q1
 subst e
 cases r1
 rcases q1 with ⟨⟨xs,hq⟩,q⟩ | ⟨⟨xs,hq⟩,q⟩
 ·obtain ⟨its,rv,p,hz⟩:=I1.list hq
  refine wpAny_pyIter_list p.isList ?_
  refine ⟨s1.heap.objs.size,[s1.heap.objs.size],_,_,H1,rfl,I1.kept (t':=s1.toks) fun b o e=>Heap.get?_push_of_some _ e,nZ a _,⟨_,Heap.get?_push_size _ rfl,rfl,rfl⟩,fun b hb=>?_,q⟩
  have e:b=s1.heap.objs.size:=by simpa using hb
  subst e
  exact I1.fpOk (Nat.le_refl _) (I1.hok.fresh (Nat.le_refl _))
 ·obtain ⟨its,rv,p,hz⟩:=I1.tuple hq
  refine wpAny_pyIter_tuple (show s1.heap.IsTuple a its.toArray from p) ?_
  refine ⟨s1.heap.objs.size,[s1.heap.objs.size],_,_,H1,rfl,I1.kept (t':=s1.toks) fun b o e=>Heap.get?_push_of_some _ e,xF a _,⟨_,Heap.get?_push_size _ rfl,rfl,rfl⟩,fun b hb=>?_,q⟩
  have e:b=s1.heap.objs.size:=by simpa using hb
  subst e
  exact I1.fpOk (Nat.le_refl _) (I1.hok.fresh (Nat.le_refl _))
theorem nF {K:PySem.W.Frag} {Hi:Hp} {a:Addr} {xs:List V} {ds:List D} (h1:SqL K Hi a xs) (h2:IsDs K Hi xs ds):oM K Hi (Itl K a) ds:=fun Hi1 H1 s1 s2 i=>by
 have h3:=bC (s1.trans s2) h1
 refine ⟨fun hl=>⟨xs,h3,by rw [h2.length];exact hl⟩,fun d hd=>?_⟩
 obtain ⟨v,hv,r⟩:=h2.at hd
 refine ⟨⟨xs,v,h3,hv⟩,fun x H2 y=>?_⟩
 obtain ⟨e,y⟩:=y
 subst e
 have:=y xs h3
 rw [hv] at this
 cases this
 exact ⟨Hi1,Ext.refl s2,r.mono s1⟩
theorem xU {tg:Expr} (h:PEd X G e f):PId X G tg e (zBR f):=PI.wk (zGG h) fun σ H Q q=>by
 obtain ⟨ρ,Hi,R,ou⟩:=q
 refine rQ R ou fun v d Hi1 H1 e1 R1 r1 o1=>?_
 cases d with
 | lst ds=>
  obtain ⟨a,xs,rfl,h1,h2⟩:=r1.lstI
  exact ⟨a,rfl,.inl ⟨⟨xs,bC R1.s h1⟩,o1.here R1.s _ (nF h1 h2)⟩⟩
 | tup ds=>
  obtain ⟨a,xs,rfl,h1,h2⟩:=r1.tupI
  exact ⟨a,rfl,.inr ⟨⟨xs,bY R1.s h1⟩,o1.here R1.s _ (zAY h1 h2)⟩⟩
 | _=>exact o1.elim
theorem gE {i:Nat}:∀ d ρ c,gName i d ρ≠.err c:=fun d ρ c z=>by cases z
theorem zFC:∀ a b d,xI a b=.ok d->∃ i j,a=.int i/\b=.int j/\d=.int (i - j):=fun a b d z=>by
 unfold xI at z;split at z
 ·cases z;exact ⟨_,_,rfl,rfl,rfl⟩
 ·cases z
theorem zCT:∀ a b c,xI a b≠.err c:=fun a b c z=>by unfold xI at z;split at z<;>cases z
end
end L3
namespace L3
open PySem PySem.Spec PyProof.Rows L2
unseal PEd PEf PTd PWd PAd PSd cI POd PGd eA PId
theorem tH {K:PySem.W.Frag} {H:Hp}:∀ ns:List Int,IsDs K H (ns.map V.int) (ns.map D.int)
 | []=>.nil
 | n::ns=>.cons (.int n) (tH ns)
end L3
namespace L3
open PySem PySem.Spec PyProof.Rows L2
unseal PEd PEf PTd PWd PAd PSd cI POd PGd eA PId
section
variable {X:Cx} {G:Gx} {e:Expr} {es:List Expr} {pos np cpos:Pos} {fs:Fv} {k:Nat} {c:Str}
theorem iW (W:Good X G k) (WR:xS X G) (hR:∃ C,Err X.K X.mg c C) (hg:Gl X c) (ha:PAd X G (e::es) fs)
  (he:starEach (e::es) X.env=(false,eval e X.env)::starEach es X.env:=by rfl) (hplain:(backTo cpos (starEach es X.env)).any (·.1)=false:=by rfl) (hd:(c==("__debug__" : Str))=false:=by decide):
  PSd X G (.Raise (some (.Call (.Name c np) (e::es) [] cpos)) none pos) (kN c fs):=by
 intro pins s σ H E I q
 obtain ⟨ρ,Hi,R,h⟩:=q
 obtain ⟨C,Er⟩:=hR
 obtain ⟨bmB,newId,B,initId,O,FB⟩:=Er.own X.base I.mod.kin
 obtain ⟨tl,N,nm,q,bs,hdct,sn,sub,ab,col,dd,k0,k1,k2,k3,k5,mN,hC,hN,hni,T⟩:=O.obj
 have hA:=ha cpos pins s σ H (fun vs H1=>vs.length<=sizeLine/\XE X G (.ref C) none H1) I ⟨ρ,Hi,R,kJ R h fun ds Hi' H' _ e1 h' vs r=>by
  have h':Fin X G Hi' E (if ds.length<=16777216 then (.err c:Res Fl) else .no):=h'
  by_cases hz:ds.length<=16777216
  ·rw [if_pos hz] at h'
   exact ⟨by rw [r.length];exact hz,c,O.bound,h' Hi' H' (R.ext.trans e1)⟩
  ·rw [if_neg hz] at h';exact h'.elim⟩
 refine wpAny_Raise_call_subT (C:=C) (nm:=nm) (q:=q) (N:=N) (bs:=bs) (bm:=tl) (hdct:=hdct) (sn:=sn) (sub:=sub) (ab:=ab) (col:=col) (dd:=dd) (k0:=k0) (k1:=k1) (k2:=k2) (k3:=k3) (k5:=k5)
  FB (mN:=mN) (T.hasType FB.hasBase) (I.ok.hd W.calm) (by rw [he];show (false || (backTo cpos (starEach es X.env)).any (·.1))=false;rw [hplain];rfl) hni (nV I hg O.bound ⟨rfl,?_⟩ hd)
 rw [he] at hA ⊢
 refine Calls.evalArgs_plain (wpAny_mono hA (fun us s₂ h₂=>?_) fun _ _ y=>y)
 obtain ⟨vs,H2,I2,rv,hz,hx⟩:=h₂
 exact ⟨rfl,by show us.length<=sizeLine;rw [<-rv.length];exact hz,I2.bk _ _ hC,hN.keeps I2.bk,T.keeps I2.bk,fun h' ea hm=>WR pins σ H2 s₂ { s₂ with heap:=h' } ea (.ref C) us I2 hm rfl I2.bare hx⟩
end
end L3
namespace L3
open PySem PySem.Spec PyProof.Rows L2 PySem.W Builtin Builtin.ObjectAttr Builtin.Getset_descriptor
unseal PEd PEf PTd PWd PAd PSd cI POd PGd eA PId
section
variable {prog:Program} {w:World} {A:Around} {E:Value->Shared->Prop} {s:Shared} {K:Frag} {x D:Addr} {ox:Obj}
def zEU (x D:Addr) (h:Heap):Prop:=∃ o,h.get? x=some o/\o.cls=.ref D
theorem zEU.looks {h:Heap} (I:zEU x D h) {M:Model}:Looks M h (typeOf (.ref x)) (.ref D):=by
 obtain ⟨o,h1,h2⟩:=I
 exact h2 ▸ (Looks.ld h1).andThen .now
theorem xO {h:Heap} {M:Model} {self:Value} {name:Str} {a g:Value} (X:K.In h) (ha:findIn K (.ref D) name=some (some a)) (hg:specialIn K a "__get__" = some (some g)) (ht:takesIn K a=some true):
  Looks M h (Builtin.ObjectAttr.find self (.ref D) name) (.bind g a):=by
 have L1:=looks_findIn (M:=M) X ha
 have L2:=looks_specialIn (M:=M) X hg
 have L3:=looks_takesIn (M:=M) X ht
 refine L1.andThen (L2.andThen ?_)
 intro A' Q' E' s' k q
 unfold Builtin.ObjectAttr.dataDescriptor?
 refine wpAny_bind (wpAny_bind (L3 A' _ E' s' k ?_))
 exact wpAny_pure (wpAny_bind (wpAny_rule (wpAny_pure q)))
theorem yE {R:Result->Shared->Prop} {tp:Value} (X:K.In s.heap) (I:zEU x D s.heap) (hm:mroIn K D (.type "object")=some true) (h:R (.ok (.ret (.ref D))) s):
  codeAny (model prog w) A (.call (.builtin "getset_descriptor.__get__") ⟨[.builtin "object.__class__", .ref x,tp],[]⟩) R s:=by
 obtain ⟨hh,gg,dr,tt,oo⟩:=s
 have L0:=I.looks (M:=model prog w)
 have L1:=looks_mroIn (M:=model prog w) X hm
 refine codeAny_call_builtin KF.slot_gs.plain KF.entry_gs (KF.slot_gs.check _ _ _ _ _ _ _ _ KF.type_class (KF.args_gs _ _ _) ?_)
 unfold Builtin.«getset_descriptor.__get__» descrGet
 rw [dga_obj]
 refine wpAny_bind (wpAny_pure ?_)
 unfold descrGetter descrCheckInstance descrNameAndClass isInstance
 simp only [KF.owner_class]
 repeat lk
 refine ⟨Code.quiet_builtin _ (by decide +kernel),codeAny_builtin KF.entry_class ?_⟩
 unfold Builtin.«object.__class__» shownTypeOf
 repeat lk
 exact h
structure ExK (K:Frag) (D:Addr):Prop where
 hc:(clsIn K D).isSome=true
 ga:findIn K (.ref D) "__getattribute__" = some (some (.builtin "BaseException.__getattribute__"))
 no:findIn K (.ref D) "__getattr__" = some none
 ha:findIn K (.ref D) "__class__" = some (some (.builtin "object.__class__"))
 hn:specialIn K (.builtin "object.__class__") "__get__" = some (some (.builtin "getset_descriptor.__get__"))
 tk:takesIn K (.builtin "object.__class__")=some true
 mo:mroIn K D (.type "object")=some true
 mb:mroIn K D (.type "BaseException")=some true
theorem zN (T:ExK K D) {Q:Option Value->Shared->Prop} (X:K.In s.heap) (I:zEU x D s.heap) (h:Q (some (.ref D)) { s with toks:=s.toks+1 }):
  wpAny (model prog w) A (getAttr? (.ref x) "__class__") Q E s:=by
 obtain ⟨hh,g,d,t,os⟩:=s
 have L0:=I.looks (M:=model prog w)
 have L1:=looks_findIn (M:=model prog w) X T.ga
 have L2:=looks_findIn (M:=model prog w) X T.no
 have L3:=xO (M:=model prog w) (self:=.ref x) X T.ha T.hn T.tk
 have L4:=looks_mroIn (M:=model prog w) X T.mb
 unfold getAttr? getAttrBy? getAttrBy
 refine wpAny_bind (wpAny_mkText (wpAny_bind (wpAny_attempt (wpAny_holding (wpAny_bind (L0.at (wpAny_bind (L1.at ?_))))))))
 have hx2:(Value.builtin "BaseException.__getattribute__" == Value.builtin "object.__getattribute__")=false:=by decide +kernel
 show wpAny _ _ (if (onTheHeap (.ref D) && Value.builtin "BaseException.__getattribute__" == Value.builtin "object.__getattribute__")=true then _ else _) _ _ _
 rw [hx2,Bool.and_false,if_neg Bool.false_ne_true]
 unfold getAttrByItsOwn hookBefore
 refine wpAny_bind ?_
 show wpAny _ _ (typeLookup (.ref D) "__getattr__") _ _ _
 refine L2.at ?_
 refine wpAny_bind (wpAny_attempt (wpAny_holding ?_))
 unfold callGetattribute boundAndCalled
 have f3:=F.excAttr_ValueError.ga.bind (.ref x)
 show wpAny _ _ (bindSpecial (.builtin "BaseException.__getattribute__") (.ref x) >>= _) _ _ _
 rw [f3]
 refine wpAny_bind (wpAny_pure ?_)
 have hk:builtinKind "BaseException.__getattribute__" = some .slot:=by decide +kernel
 have hsplit:splitId "BaseException.__getattribute__" = some ("BaseException", "__getattribute__"):=by decide +kernel
 refine wpAny_call (codeAny_call_builtin F.excAttr_ValueError.ga.plain F.entry_bexc_ga ?_)
 have ha:=F.args_bexc_ga (.ref x) (.str "__class__" t)
 simp only [checkBuiltinCall,hk,hsplit]
 refine wpAny_bind ?_
 unfold isInstance
 refine wpAny_bind ?_
 refine L0.at ?_
 refine L4.at ?_
 rw [if_neg (by decide)]
 repeat (first | assumption | wp_step)
 obtain ⟨ox,hx,hcl⟩:=I
 refine wpAny_loadPart_at hx ?_
 rw [hcl]
 refine wpAny_pure ?_
 refine wpAny_bind ?_
 refine L3.at ?_
 show wpAny _ _ (Builtin.ObjectAttr.bindTo (.builtin "getset_descriptor.__get__") (.builtin "object.__class__") (.ref x) (.ref D)) _ _ _
 unfold Builtin.ObjectAttr.bindTo
 show wpAny _ _ (do
   let v <-holding [Value.builtin "object.__class__"] (call (.builtin "getset_descriptor.__get__") [.builtin "object.__class__", .ref x,.ref D])
   ret v) _ _ _
 refine wpAny_bind (wpAny_holding (wpAny_call (yE X ⟨ox,hx,hcl⟩ T.mo ?_)))
 refine wpAny_pure ?_
 exact handed_on rfl (wpAny_pure h)
theorem wX (T:ExK K D):KitX K (.ref x) (.ref D) (zEU x D) where
 ty:=fun _ _ _ I=>I.looks
 it:=fun _ _ X _=>by
  obtain ⟨cd,hcD⟩:=Option.isSome_iff_exists.mp T.hc
  unfold clsIn at hcD
  split at hcD
  ·rename_i c' d' cd' sl' ho
   intro A' Q' E' s' k q
   unfold isType loadHead
   exact wpAny_bind (wpAny_loadPart (k _ _ (X _ _ ho)) (wpAny_pure q))
  ·cases hcD
 ne:=fun h tp dd its n sl X htp=>by
  obtain ⟨cd,hcD⟩:=Option.isSome_iff_exists.mp T.hc
  refine Bool.eq_false_iff.mpr fun q=>?_
  have e:D=tp:=Value.ref.inj (beq_iff_eq.mp q)
  subst e
  unfold clsIn at hcD
  split at hcD
  ·rename_i c' d' cd' sl' ho
   have z:=(X _ _ ho).symm.trans htp
   cases z
  ·cases hcD
 ca:=fun X I k=>zN T X I k
end
end L3
namespace L3
open PySem PySem.Spec PyProof.Rows L2 PySem.W
unseal PEd PEf PTd PWd PAd PSd cI POd PGd eA PId
section
variable {prog:Program} {w:World} {A:Around} {E:Value->Shared->Prop} {s:Shared} {K:Frag} {x C CE:Addr} {ox:Obj}
structure CaK (K:Frag) (CE:Addr):Prop where
 ty:typeIn K (.ref CE)=some (.type "type")
 cl:(clsIn K CE).isSome=true
 mb:mroIn K CE (.type "BaseException")=some true
theorem zAL (T:CaK K CE) (hm:mroIn K C (.ref CE)=some true) {Q:Bool->Shared->Prop} (X:K.In s.heap) (I:zEU x C s.heap) (h:Q true s):wpAny (model prog w) A (excMatches (.ref x) (.ref CE)) Q E s:=by
 obtain ⟨hh,g,d,t,os⟩:=s
 have L0:=I.looks (M:=model prog w)
 have L1:=looks_typeIn (M:=model prog w) X T.ty
 have L2:=looks_mroIn (M:=model prog w) X T.mb
 have L3:=looks_mroIn (M:=model prog w) X hm
 have Lt:Looks (model prog w) hh (isType (.ref CE)) true:=by
  obtain ⟨cd,hcD⟩:=Option.isSome_iff_exists.mp T.cl
  unfold clsIn at hcD
  split at hcD
  ·rename_i c' d' cd' sl' ho
   intro A' Q' E' s' k q
   unfold isType loadHead
   exact wpAny_bind (wpAny_loadPart (k _ _ (X _ _ ho)) (wpAny_pure q))
  ·cases hcD
 unfold excMatches isInstance isExcClass
 refine wpAny_bind (wpAny_bind ?_)
 refine L1.at ?_
 refine wpAny_of_eq tc_notTuple ?_
 show wpAny _ _ (forIn [Value.ref CE] PUnit.unit _ >>= _) _ _ _
 rw [List.forIn_cons]
 refine wpAny_bind (wpAny_bind (wpAny_bind (wpAny_bind ?_)))
 refine Lt.at ?_
 show wpAny _ _ (isSubtype (.ref CE) (.type "BaseException")) _ _ _
 refine L2.at ?_
 refine wpAny_pure ?_
 show wpAny _ _ (forIn ([]:List Value) PUnit.unit _) _ _ _
 rw [List.forIn_nil]
 refine wpAny_pure ?_
 refine wpAny_bind ?_
 refine L0.at ?_
 refine wpAny_bind ?_
 rw [List.forIn_cons]
 refine wpAny_bind (wpAny_bind ?_)
 refine L3.at ?_
 repeat (first | exact h | wp_step)
end
end L3
namespace L3
open PySem PySem.Spec PyProof.Rows L2 PySem.W
unseal PEd PEf PTd PWd PAd PSd cI POd PGd eA PId
section
variable {X:Cx} {pins:List (Addr×Obj)} {σ:St} {H H':Hp} {s s':Shared} {ea:Addr} {cls:Value}
theorem Fly.stay (I:Inv X pins σ H s) (F:Fly X.prog X.w X.stack H H' s ea cls s') {h' B:Heap} {a0:Value}
  (hf:Heap.FlyingW B X.stack ea cls a0 s'.heap) (cov:∀ b o,s'.heap.get? b=some o->((∃ o',s.heap.get? b=some o')∨H' b≠none)->b∉frs X.stack->B.get? b=some o)
  (hf':Heap.FlyingW B X.stack ea cls a0 h') (up:s'.heap.UpToSlots h') {t':Nat}:Inv X pins σ H' { s' with heap:=h',toks:=t' }:=by
 have trk:∀ {b:Addr},H' b≠none->b∉frs X.stack:=fun {b} hb hm=>by
  have h1:=I.stkFree b hm
  obtain ⟨_,o,ho,_⟩:=I.stack.mem hm
  exact hb (F.un.free b o ho h1 (by simp))
 have keepB:∀ {b:Addr} {o:Obj},s'.heap.get? b=some o->((∃ o',s.heap.get? b=some o')∨H' b≠none)->b∉frs X.stack->h'.get? b=some o:=fun e1 e2 e3=>hf'.1 _ _ (cov _ _ e1 e2 e3)
 have slotOf:∀ {b:Addr} {o:Obj},b∈frs X.stack->s'.heap.get? b=some o->∃ sl,h'.get? b=some { o with slots:=sl }:=fun {b o} hm e=>by
  obtain ⟨_,o',ho',hn⟩:=hf.2.2.1.mem hm
  rw [e] at ho';cases ho'
  exact up b o e hn
 refine I.call' (s':={ s' with heap:=h',toks:=t' }) (ch:=[]) F.os ⟨?_,?_,F.un.free,?_,F.un.tups,F.un.frzs,F.un.tbls⟩ ?_ F.bare (fun b z=>absurd z (by simp))
 ·intro b o e n hb hx
  exact keepB (F.un.keep b o e n hb hx) (.inl ⟨o,e⟩) hb
 ·intro b o e n hb hx
  obtain ⟨sl,e1⟩:=F.un.slot b o e n hb hx
  obtain ⟨sl2,e2⟩:=slotOf hb e1
  exact ⟨sl2,e2⟩
 ·intro b o e hx
  obtain ⟨o1,e1⟩:=F.un.there b o e hx
  by_cases hs:b∈frs X.stack
  ·obtain ⟨sl,e3⟩:=slotOf hs e1
   exact ⟨_,e3⟩
  ·exact ⟨o1,keepB e1 (.inl ⟨o,e⟩) hs⟩
 ·intro a o e
  refine (F.hok a o e).stay (fun b u hb z=>?_) (fun b z=>z) (fun b xs z=>z)
  have hb':H' b≠none:=by
   rcases hb with rfl | hb
   ·rw [e];simp
   ·rw [hb];simp
  exact keepB z (.inr hb') (trk hb')
theorem _root_.L2.Inv.track (I:Inv X pins σ H s) {a:Addr} {o:HO} (hn:H a=none) (h0:X.s₀.heap.get? a=none) (hl:a≠X.env.locals) (hc:∀ x c,X.env.cells.lookup x=some c->c≠a) (hp:∀ p∈X.pn++pins,p.1≠a)
  (ho:gO X.prog X.w (upd H a o) s.heap a o):Inv X pins σ (upd H a o) s where
 ok:=I.ok
 os:=I.os
 bare:=I.bare
 base:=⟨I.base.keep,I.base.slot,fun b ob e n hx=>by
   have:b≠a:=fun z=>by rw [z,h0] at e;cases e
   rw [aO this];exact I.base.free b ob e n hx,I.base.there,fun b xs e=>by
   have z:=I.base.tups b xs e
   rw [aO (aR z hn)];exact z,fun b ob u e=>by
   have z:=I.base.frzs b ob u e
   rw [aO (aR z hn)];exact z,fun b ps e=>by
   obtain ⟨m,z⟩:=I.base.tbls b ps e
   exact ⟨m,by rw [aO (aR z hn)];exact z⟩⟩
 loc:=I.loc
 cell:=I.cell
 free:=by rw [aO (Ne.symm hl)];exact I.free
 freeC:=fun x c e=>by rw [aO (hc x c e)];exact I.freeC x c e
 pin:=fun p hp'=>by
  obtain ⟨e1,e2,e3,e4,e5⟩:=I.pin p hp'
  exact ⟨e1,by rw [aO (hp p hp')];exact e2,e3,e4,e5⟩
 hok:=fun b u e=>by
  by_cases hb:b=a
  ·subst hb;rw [aH] at e;cases e;exact ho
  ·rw [aO hb] at e
   exact (I.hok b u e).stay (fun c v _ q=>q) (fun c q=>by rw [aO (aR q hn)];exact q) fun c xs q=>by rw [aO (aR q hn)];exact q
 len:=I.len
theorem zEv {M:Model} {A:Around} {E:Value->Shared->Prop} {i:Nat} {n:Str} {pos:Pos} {Q:Unit->Shared->Prop} (I:Inv X pins σ H s) (hN:X.N.Nodup) (hi:X.N[i]?=some n) (hk:X.env.scope.names.lookup n=some .local)
  (h:∀ s',Inv X pins (σ.set i none) H s'->Q () s'):wpAny M A (do bindName X.env n .none;unbindBehindTheSuite X.env n pos) Q E s:=by
 obtain ⟨m,hn,hl⟩:=id I.loc
 have hcls:(X.env.scope.kind==.class || (X.env.scope.kind==.module && X.env.locals != X.env.globals))=false:=by rw [I.ok.kind];rfl
 have hiσ:i < σ.length:=by rw [I.len];exact (List.getElem?_eq_some_iff.mp hi).1
 have cne:=I.cne
 refine wpAny_nameGoes_keeps hk hn hcls fun h' v hn' hs=>?_
 obtain ⟨oL,_,_,hoL,_⟩:=id hn
 refine h _ ⟨I.ok,I.os,I.bare,⟨fun b o e n hb hx=>?_,fun b o e n hb hx=>?_,I.base.free,fun b o e hx=>?_,I.base.tups,I.base.frzs,I.base.tbls⟩,⟨_,hn',fun j y v' e1 e2 e3=>?_⟩,fun y c e=>?_,I.free,I.freeC,fun p hp=>?_,?_,by simpa using I.len⟩
 ·exact (hs.2 b (Nat.ne_of_lt (Nat.lt_of_lt_of_le (Heap.lt_size e) I.ok.above))).trans (I.base.keep b o e n hb hx)
 ·obtain ⟨sl,e1⟩:=I.base.slot b o e n hb hx
  exact ⟨sl,(hs.2 b (Nat.ne_of_lt (Nat.lt_of_lt_of_le (Heap.lt_size e) I.ok.above))).trans e1⟩
 ·obtain ⟨o',e1⟩:=I.base.there b o e hx
  exact ⟨o',(hs.2 b (Nat.ne_of_lt (Nat.lt_of_lt_of_le (Heap.lt_size e) I.ok.above))).trans e1⟩
 ·by_cases hj:j=i
  ·subst hj
   rw [List.getElem?_set_self hiσ] at e2
   cases e2
  ·rw [List.getElem?_set_ne (Ne.symm hj)] at e2
   obtain ⟨u',r',q⟩:=hl j y v' e1 e2 e3
   refine ⟨u',r',?_⟩
   rcases q with ⟨k,e⟩ | ⟨k,c,e,z⟩
   ·refine .inl ⟨k,?_⟩
    have:y≠n:=fun e=>hj (qL hN e1 (e ▸ hi))
    simp [this,e]
   ·exact .inr ⟨k,c,e,z.sameBut hs (cne y c e)⟩
 ·obtain ⟨w',z⟩:=I.cell y c e
  exact ⟨w',z.sameBut hs (cne y c e)⟩
 ·obtain ⟨e,n,ne,nf,d⟩:=I.pin p hp
  exact ⟨(hs.2 p.1 ne).trans e,n,ne,nf,d⟩
 ·intro b ob e
  refine (I.hok b ob e).stay (fun c w' hc q=>(hs.2 c ?_).trans q) (fun _ q=>q) fun _ _ q=>q
  rintro rfl
  have hfree:=I.free
  rcases hc with rfl | hc
  ·rw [hfree] at e;cases e
  ·rw [hfree] at hc;cases hc
abbrev iI (X:Cx) (ea:Addr):Cx:={ X with A:=X.A.mark (some (.ref ea)),calm:=false,xe:=fun _ _=>False }
theorem _root_.L2.Inv.clause (I:Inv X pins σ H s) (ea:Addr):Inv (iI X ea) pins σ H s:=
 ⟨⟨I.ok.mod,I.ok.kind,I.ok.glob,I.ok.blt,I.ok.above,I.ok.inj,I.ok.has,I.ok.cab,(fun z=>Bool.noConfusion z),I.ok.frames,I.ok.stk,I.ok.exf,I.ok.bs,I.ok.bsz,I.ok.noex,I.ok.exfs,I.ok.funs,I.ok.frf⟩,I.os,I.bare,I.base,I.loc,I.cell,I.free,I.freeC,I.pin,I.hok,I.len⟩
theorem _root_.L2.Inv.unclause {ea:Addr} (ok:X.Ok) (I:Inv (iI X ea) pins σ H s):Inv X pins σ H s:=⟨ok,I.os,I.bare,I.base,I.loc,I.cell,I.free,I.freeC,I.pin,I.hok,I.len⟩
end
end L3
namespace L3
open PySem PySem.Spec PyProof.Rows L2 PySem.W
unseal PEd PEf PTd PWd PAd PSd cI POd PGd eA PId
section
variable {X:Cx} {G:Gx} {a e:Expr} {es:List Expr} {pos p:Pos} {fs:Fv} {t:Tv} {x:Str} {k:Nat} {ps:List Str} {m:Mir} {st:Stmt} {sts:List Stmt} {sa sb:Sv}
def G0 (G:Gx):Gx:={ G with E:=fun _ _=>False }
def zGF (X:Cx) (pins:List (Addr×Obj)) (σ:St) (Hi H:Hp) (c:Str) (ev:Value) (s':Shared):Prop:=
 ∃ (s1:Shared) (H1:Hp) (ea:Addr) (cls:Value) (Hi' H':Hp),ev=.ref ea/\Inv X pins σ H1 s1/\X.mg c=some cls/\Fly X.prog X.w X.stack H1 H' s1 ea cls s'/\Ext Hi H Hi' H'/\Keep H H1
def zHW (X:Cx) (G:Gx) (Hi:Hp) (E:Ends) (r:Res Fl):Prop:=match r with
 | .err _=>True
 | r=>Fin X G Hi E r
@[irreducible] def PSx (X:Cx) (G:Gx) (st:Stmt) (f:Sv):Prop:=∀ (pins:List (Addr×Obj)) (s:Shared) (σ:St) (H:Hp) (E:Ends) (ρ:Rho) (Hi:Hp) (Et:Value->Shared->Prop),
 Inv X pins σ H s->fN X G Hi H σ ρ->f ρ≠.no->zHW X G Hi E (f ρ)->(∀ c ev s',f ρ=.err c->zGF X pins σ Hi H c ev s'->Et ev s')->wpAny (model X.prog X.w) X.A (exec st X.env) (SP X pins E) Et s
unseal PSx
@[irreducible] def eN (X:Cx) (G:Gx) (sts:List Stmt) (f:Sv):Prop:=∀ (pins:List (Addr×Obj)) (s:Shared) (σ:St) (H:Hp) (E:Ends) (ρ:Rho) (Hi:Hp) (Et:Value->Shared->Prop),
 Inv X pins σ H s->fN X G Hi H σ ρ->f ρ≠.no->zHW X G Hi E (f ρ)->(∀ c ev s',f ρ=.err c->zGF X pins σ Hi H c ev s'->Et ev s')->wpAny (model X.prog X.w) X.A (execs sts X.env) (SP X pins E) Et s
unseal eN
theorem zAz (h:PSx X G st sa):eN X G [st] sa:=fun pins s σ H E ρ Hi Et I R hn hf he=>by
 refine wpAny_execs_cons (wpAny_mono (h pins s σ H E ρ Hi Et I R hn hf he) (fun f s1 q=>?_) fun _ _ z=>z)
 cases f with
 | next=>exact wpAny_execs_nil q
 | ret v=>exact q
 | brk=>exact q
 | cont=>exact q
theorem zIl {pins:List (Addr×Obj)} {s:Shared} {σ:St} {H:Hp} {ρ:Rho} {Hi:Hp} {Et:Value->Shared->Prop} {Q:VK} {ds:List D} (tb:TB X.K X.mg G.Bi G.B) (c:CanM X.prog X.w X.K X.mg X.base k x ps m) (hr:Room k X.A) (hg:Gl X x) (ha:PAd X.nox (G0 G) (e::es) fs)
  (I:Inv X pins σ H s) (R:fN X G Hi H σ ρ) (hds:fs ρ=.ok ds) (hm:m ds≠.no) (hq:∀ r v Hi' H',m ds=.ok r->Ext Hi H Hi' H'->IsD X.K Hi' v r.d->Q v H') (he:∀ c ev s',m ds=.err c->zGF X pins σ Hi H c ev s'->Et ev s')
  (hdb:(x==("__debug__" : Str))=false) (hst:starEach (e::es) X.env=(false,eval e X.env)::starEach es X.env) (hpl:(backTo pos (starEach es X.env)).any (·.1)=false):
  wpAny (model X.prog X.w) X.A (eval (.Call (.Name x p) (e::es) [] pos) X.env) (EP X pins σ Q) Et s:=by
 obtain ⟨⟨f,fd,F,b,kp,hmg⟩,ln⟩:=c
 refine wpAny_Call_Name_kw (nV I hg hmg ?_ hdb)
 have hA:=ha pos pins s σ H (fun vs H1=>∃ Hi1,Ext Hi H Hi1 H1/\IsDs X.K Hi1 vs ds) (I.wish _) ⟨ρ,Hi,R,by rw [hds];exact fun Hi1 H1 e1 vs r=>⟨Hi1,e1,r⟩⟩
 refine PySem.W.callWith_K (h₀:=X.base) I.ok.mod.kin kp (wpAny_mono hA (fun us s1 q=>?_) fun _ _ z=>False.elim z) hst hpl
 obtain ⟨vs,H1,I1',r,Hi1,e1,hd⟩:=q
 have I1:Inv X pins σ H1 s1:=I1'.unwish
 refine ⟨I1.kIn,?_⟩
 have hl:us.length=ps.length:=by rw [<-r.length,hd.length];exact ln ds hm
 refine wpAny_call (codeAny_mono (F.run X.A X.stack s1 H1 ⟨us,[]⟩ us vs (fun v H2=>Q v H2) (fun cls _ H2=>∃ c Hi2,X.mg c=some cls/\m ds=.err c/\Ext Hi1 H1 Hi2 H2) hr I1.env0 (by have:=b s1 us I1.kIn (by rw [List.append_nil];exact hl);rwa [List.append_nil] at this) r ?_) fun res s' hq'=>?_)
 ·refine ⟨by rw [hd.length];exact ln ds hm,Hi1,ds,tb.ext (R.ext.trans e1),e1.s,hd,?_⟩
  cases z:m ds with
  | no=>exact absurd z hm
  | err c'=>exact fun C hC Hi2 H2 e2=>⟨c',Hi2,hC,rfl,e2⟩
  | ok rr=>
   cases rr with
   | v d=>exact fun v Hi2 H2 e2 r2=>hq _ v Hi2 H2 z (e1.trans e2) r2
   | f es=>
    intro a' Hi2 H2 e2 n
    obtain ⟨n1,n2,xs,n3,n4⟩:=n
    exact hq _ (.ref a') (upd Hi2 a' (.lst xs)) H2 z (e1.trans (e2.hold n1 n3 n2)) (.lst (SqL.of aH) (n4.mono (cA n2 _)))
 ·cases res with
  | error ev=>
   obtain ⟨ea,cls,H',rfl,Fl,c',Hi2,hc,hmc,e2⟩:=hq'
   exact he c' _ s' hmc ⟨s1,H1,ea,cls,Hi2,H',rfl,I1,hc,Fl,e1.trans e2,e1.h⟩
  | ok fl=>
   cases fl with
   | ret u=>exact I1.after hq'
   | next=>exact False.elim hq'
   | brk=>exact False.elim hq'
   | cont=>exact False.elim hq'
theorem vM {α:Type} {r:Res α} {β:Type} {f:α->Res β} (h:(noErr r).bind f≠.no):∃ a,r=.ok a/\(noErr r).bind f=f a:=by
 cases r with
 | ok a=>exact ⟨a,rfl,rfl⟩
 | err c=>exact absurd rfl h
 | no=>exact absurd rfl h
theorem zDM {i:Nat} {y:Str} {py pos2:Pos} (hN:X.N.Nodup) (hi:X.N[i]?=some y) (hy:Loc X.env.scope y) (W:Good X G k) (c:CanM X.prog X.w X.K X.mg X.base k x ps m) (hg:Gl X x) (ha:PAd X.nox (G0 G) (e::es) fs)
  (hdb:(x==("__debug__" : Str))=false:=by decide) (hst:starEach (e::es) X.env=(false,eval e X.env)::starEach es X.env:=by rfl) (hpl:(backTo pos (starEach es X.env)).any (·.1)=false:=by rfl)
  (hs2:swapsWith (.Call (.Name x p) (e::es) [] pos) (some (.Name y py)) pos2.line X.env=pure false:=by rfl) (hfn:X.fn y=true∨X.env.scope.names.lookup y=some .local:=by first | exact .inl rfl | exact .inr rfl | assumption):
  PSx X G (.Assign [.Name y py] (.Call (.Name x p) (e::es) [] pos) pos2) (zFH i m fs):=fun pins s σ H E ρ Hi Et I R hn hf he=>by
 unfold zFH at hn hf he
 obtain ⟨ds,hds,heq⟩:=vM hn
 rw [heq] at hn hf he
 have hm:m ds≠.no:=fun z=>by rw [z] at hn;exact hn rfl
 refine wpAny_Assign_Name (wpAny_mono (zIl (Q:=fun v H'=>E.nx (σ.set i (some v)) H') W.tb c W.room hg ha I R hds hm (fun r v Hi' H' z e1 rv=>?_) (fun c' ev s' z q=>he c' ev s' (by rw [z];rfl) q) hdb hst hpl) (fun v s1 q=>?_) fun _ _ z=>z) hs2
 ·rw [z] at hf
  exact (show Fin X G Hi E (.ok (.nx (ρ.set i (.val r.d)))) from hf) _ Hi' H' e1.i ((R.grow e1).set rv)
 ·obtain ⟨v',H1,I1,r1,q1⟩:=q
  exact fY I1 hN hi hy r1 (fun s2 I2=>⟨_,H1,I2,q1⟩) hfn
theorem zJk {c:Expr} {as bs:List Stmt} (hc:PTd X.nox (G0 G) c t) (ha:eN X G as sa) (hb:eN X G bs sb):PSx X G (.If c as bs pos) (xIf t sa sb):=fun pins s σ H E ρ Hi Et I R hn hf he=>by
 unfold xIf at hn hf he
 obtain ⟨b,hb',heq⟩:=vM hn
 rw [heq] at hn hf he
 have hT:=hc pins s σ H (fun b' H1=>b'=b/\∃ Hi1,Ext Hi H Hi1 H1) (I.wish _) ⟨ρ,Hi,R,by rw [hb'];exact fun Hi1 H1 e1=>⟨rfl,Hi1,e1⟩⟩
 refine wpAny_If (wpAny_mono hT (fun b' s1 q=>?_) fun _ _ z=>False.elim z)
 obtain ⟨H1,I1',rfl,Hi1,e1⟩:=q
 have I1:Inv X pins σ H1 s1:=I1'.unwish
 have R1:=R.grow e1
 have cm:∀ c ev s',zGF X pins σ Hi1 H1 c ev s'->zGF X pins σ Hi H c ev s':=fun c ev s' q=>by
  obtain ⟨s2,H2,ea,cls,Hi',H',q1,q2,q3,q4,q5,q6⟩:=q
  exact ⟨s2,H2,ea,cls,Hi',H',q1,q2,q3,q4,e1.trans q5,e1.h.trans q6⟩
 have up:∀ r,zHW X G Hi E r->zHW X G Hi1 E r:=fun r z=>by
  cases r with
  | err c=>trivial
  | ok f=>exact Fin.mono (show Fin X G Hi E (.ok f) from z) e1.i
  | no=>exact z
 cases b' with
 | true=>exact ha pins s1 σ H1 E ρ Hi1 Et I1 R1 hn (up _ hf) fun c ev s' z q=>he c ev s' z (cm c ev s' q)
 | false=>exact hb pins s1 σ H1 E ρ Hi1 Et I1 R1 hn (up _ hf) fun c ev s' z q=>he c ev s' z (cm c ev s' q)
end
end L3
namespace L3
open PySem PySem.Spec PyProof.Rows L2 PySem.W
unseal PEd PEf PTd PWd PAd PSd cI POd PGd eA PId PSx eN
section
variable {X:Cx} {G:Gx} {k:Nat} {fb fh:Sv} {body suite:List Stmt} {b₀:Stmt} {ce n:Str} {np hpos pos:Pos} {i:Nat} {tb:List Str}
def Cat (K:Frag) (mg:Str->Option Value) (ce c:Str):Prop:=∃ C CE,mg c=some (.ref C)/\mg ce=some (.ref CE)/\ExK K C/\CaK K CE/\mroIn K C (.ref CE)=some true
theorem Rel.setExc {K:PySem.W.Frag} {mg:Str->Option Value} {B Bi Hi H:Hp} {σ:St} {ρ:Rho} {a C:Addr} {c:Str} (R:Rel K mg B Bi Hi H σ ρ) (hn:H a=none) (hB:B a=none) (hc:mg c=some (.ref C)):
  Rel K mg B Bi Hi (upd H a (.ext (lR a C))) (σ.set i (some (.ref a))) (ρ.set i (.exc c)) where
 len:=by rw [List.length_set,List.length_set];exact R.len
 ext:=R.ext.trans (Ext.newF R.s hn)
 slot:=fun j s q=>by
  by_cases z:i=j
  ·subst z
   by_cases hl:i < ρ.length
   ·rw [List.getElem?_set_self hl] at q;cases q
    exact ⟨a,C,by rw [List.getElem?_set_self (by rw [R.len];exact hl)],aH,R.s.none hn,trivial,hc⟩
   ·rw [List.getElem?_eq_none (by rw [List.length_set];omega)] at q;cases q
  ·rw [List.getElem?_set_ne z] at q ⊢
   exact (R.slot j s q).ext (Ext.newF R.s hn)
 dist:=fun j l b es fs q1 q2 q3 q4=>by
  have nx:∀ {j:Nat} {es:List D},(ρ.set i (.exc c))[j]?=some (.own es)->i≠j:=fun {j es} q e=>by
   subst e
   by_cases hl:i < ρ.length
   ·rw [List.getElem?_set_self hl] at q;cases q
   ·rw [List.getElem?_eq_none (by rw [List.length_set];omega)] at q;cases q
  have n1:=nx q1
  have n2:=nx q2
  rw [List.getElem?_set_ne n1] at q1 q3
  rw [List.getElem?_set_ne n2] at q2 q4
  exact R.dist j l b es fs q1 q2 q3 q4
theorem Rel.gone {K:PySem.W.Frag} {mg:Str->Option Value} {B Bi Hi H:Hp} {σ:St} {ρ:Rho} (R:Rel K mg B Bi Hi H σ ρ):Rel K mg B Bi Hi H (σ.set i none) (ρ.set i .un) where
 len:=by rw [List.length_set,List.length_set];exact R.len
 ext:=R.ext
 slot:=fun j s q=>by
  by_cases z:i=j
  ·subst z
   by_cases hl:i < ρ.length
   ·rw [List.getElem?_set_self hl] at q;cases q;trivial
   ·rw [List.getElem?_eq_none (by rw [List.length_set];omega)] at q;cases q
  ·rw [List.getElem?_set_ne z] at q ⊢
   exact R.slot j s q
 dist:=fun j l b es fs q1 q2 q3 q4=>by
  have nx:∀ {j:Nat} {es:List D},(ρ.set i .un)[j]?=some (.own es)->i≠j:=fun {j es} q e=>by
   subst e
   by_cases hl:i < ρ.length
   ·rw [List.getElem?_set_self hl] at q;cases q
   ·rw [List.getElem?_eq_none (by rw [List.length_set];omega)] at q;cases q
  have n1:=nx q1
  have n2:=nx q2
  rw [List.getElem?_set_ne n1] at q1 q3
  rw [List.getElem?_set_ne n2] at q2 q4
  exact R.dist j l b es fs q1 q2 q3 q4
end
end L3
namespace L3
open PySem PySem.Spec PyProof.Rows L2 PySem.W
unseal PEd PEf PTd PWd PAd PSd cI POd PGd eA PId PSx eN
def zHA (mg:Str->Option Value) (x:Str) (v:V) (cv:Value):Prop:=cD v cv/\(mg x=some cv∨(mg x=none/\bootBuiltins x=some cv/\x ≠ "__name__"))
def EK (K:Frag) (mg:Str->Option Value) (anc:List (Str×List Str)) (xs:List Str):Prop:=
 ∀ c l,anc.lookup c=some l->∃ C,mg c=some (.ref C)/\ExK K C/\∀ x,xs.contains x=true->∃ v cv,zHA mg x v cv/\(∃ z,(v=.ref z∨∃ T,v=.ty T))/\kitOne K (.ref C) cv=some (l.contains x)
section
variable {X:Cx} {G:Gx} {a:Expr} {p q pos:Pos} {i:Nat} {anc:List (Str×List Str)} {xs:List Str} {x:Str}
theorem zDD {v:V} {cv:Value} (h:zHA X.mg x v cv) (hg:Gl X x) (hd:(x==("__debug__" : Str))=false):PE X (.Name x q) (tC v):=by
 obtain ⟨r,h | ⟨h1,h2,h3⟩⟩:=h
 ·exact uV hg h r hd
 ·exact zBa hg h1 h2 r h3 hd
theorem zGV:iN X (.builtin "isinstance") (fun us H Q=>∃ a C v cv b,us=[.ref a,v]/\H a=some (.ext (lR a C))/\ExK X.K C/\cD v cv/\kitOne X.K (.ref C) cv=some b/\Q (.bl b) H):=by
 intro pins s σ H us ws Q I r h
 obtain ⟨a,C,v,cv,b,rfl,ha,T,rv,e,q⟩:=h
 obtain ⟨u,w',rfl,rx,rc⟩:=zER r
 cases (show u=Value.ref a from rx)
 obtain ⟨⟨o,vs,h1,h2,h3,_⟩,_⟩:=I.hok a _ ha
 have e1:w'=cv:=by
  cases v with
  | ref z=>cases (show w'=Value.ref z from rc);cases (show cv=Value.ref z from rv);rfl
  | ty z=>cases (show w'=Value.type z from rc);cases (show cv=Value.type z from rv);rfl
  | non=>cases (show w'=Value.none from rc);cases (show cv=Value.none from rv);rfl
  | bl z=>cases (show w'=Value.bool z from rc);cases (show cv=Value.bool z from rv);rfl
  | _=>
   exfalso
   obtain ⟨t,rfl⟩:=rv
   unfold kitOne at e
   rw [if_neg (by intro z;cases (beq_iff_eq.mp z))] at e
   simp [kitCls] at e
 subst e1
 exact PySem.W.kia_one (wX T) I.kIn ⟨o,h1,h2⟩ e (fun z=>nomatch z) fun tk=>⟨.bl b,H,I.tok _,rfl,q⟩
theorem tX (hK:EK X.K X.mg anc xs) (hx:xs.contains x=true) (hgi:Gl X "isinstance") (hm:X.mg "isinstance" = none) (hv:PE X a (uY i)) (hg:Gl X x) (hd:(x==("__debug__" : Str))=false:=by decide)
  (h1:starEach [a,.Name x q] X.env=(false,eval a X.env)::starEach [.Name x q] X.env:=by rfl) (h2:starEach [.Name x q] X.env=(false,eval (.Name x q) X.env)::starEach [] X.env:=by rfl) (hpl:(backTo pos (starEach [.Name x q] X.env)).any (·.1)=false:=by rfl):
  PEd X G (.Call (.Name "isinstance" p) [a,.Name x q] [] pos) (uA anc i [x]):=by
 intro pins s σ H Q I w
 obtain ⟨ρ,Hi,R,ou⟩:=w
 unfold uA at ou
 cases z:ρ[i]? with
 | none=>rw [z] at ou;exact ou.elim
 | some sl=>
  rw [z] at ou
  cases sl with
  | exc c=>
   obtain ⟨ad,C,o1,o2,o3,o4,o5⟩:=R.slot i _ z
   cases zl:anc.lookup c with
   | none=>simp only [zl] at ou;exact ou.elim
   | some l=>
    simp only [zl] at ou
    obtain ⟨C',m1,T,hxs⟩:=hK c l zl
    rw [o5] at m1
    cases m1
    obtain ⟨v,cv,hcl,_,hk⟩:=hxs x hx
    refine iJ zGV hgi hm boot_isinstance (dE hv (dE (zDD hcl hg hd) gJ h2) h1) (by decide) (by decide) h1 hpl pins s σ H Q I ?_
    refine ⟨.ref ad,o1,ad,C,v,cv,_,rfl,o2,T,hcl.1,hk,?_⟩
    have:=ou.here R.s (.bl (l.contains x)) (by simpa using IsD.bl (l.contains x))
    exact this
  | un=>exact ou.elim
  | val d=>exact ou.elim
  | own ds=>exact ou.elim
  | tab T=>exact ou.elim
  | ins c fs=>exact ou.elim
inductive NmL (X:Cx) (xs:List Str):List Expr->List Str->Prop where
 | nil:NmL X xs [] []
 | cons {x:Str} {q:Pos} {es:List Expr} {cs:List Str}:xs.contains x=true->Gl X x->(x==("__debug__" : Str))=false->starEach (.Name x q::es) X.env=(false,eval (.Name x q) X.env)::starEach es X.env->NmL X xs es cs->NmL X xs (.Name x q::es) (x::cs)
theorem NmL.vals {K:Frag} {C:Addr} {l:List Str} (hx:∀ x,xs.contains x=true->∃ v cv,zHA X.mg x v cv/\(∃ z,(v=.ref z∨∃ T,v=.ty T))/\kitOne K (.ref C) cv=some (l.contains x)):
  ∀ {es:List Expr} {cs:List Str},NmL X xs es cs->∃ vs cvs,PA X es (fun _ H Q=>Q vs H)/\vs.length=es.length/\cO vs cvs/\(∀ ws,cO vs ws->ws=cvs)/\kitAny K (.ref C) cvs=some (cs.any fun x=>l.contains x)
 | _,_,.nil=>⟨[],[],gJ,rfl,.nil,fun ws r=>by cases r;rfl,rfl⟩
 | _,_,.cons (x:=x) (q:=q) h1 h2 h3 h4 t=>by
  obtain ⟨vs,cvs,p1,p0,p2,p3,p4⟩:=NmL.vals hx t
  obtain ⟨v,cv,hcl,⟨z,hv⟩,hk⟩:=hx x h1
  refine ⟨v::vs,cv::cvs,dE (zDD hcl h2 h3) p1 h4,by rw [List.length_cons,List.length_cons,p0],.cons hcl.1 p2,fun ws r=>?_,?_⟩
  ·cases r with
   | cons r1 r2=>
    rw [p3 _ r2]
    congr 1
    have hr:=hcl.1
    rcases hv with rfl | ⟨T,rfl⟩
    ·rw [show _=Value.ref z from r1,show cv=Value.ref z from hr]
    ·rw [show _=Value.type T from r1,show cv=Value.type T from hr]
  ·unfold kitAny
   rw [hk,List.any_cons]
   cases l.contains x with
   | true=>rfl
   | false=>exact p4
theorem zFa:iN X (.builtin "isinstance") (fun us H Q=>∃ a C tp vs cvs b,us=[.ref a,.ref tp]/\H a=some (.ext (lR a C))/\ExK X.K C/\SqT X.K H tp vs/\(∀ ws,cO vs ws->ws=cvs)/\kitAny X.K (.ref C) cvs=some b/\Q (.bl b) H):=by
 intro pins s σ H us ws Q I r h
 obtain ⟨a,C,tp,vs,cvs,b,rfl,ha,T,ht,hu,e,q⟩:=h
 obtain ⟨u,w',rfl,rx,rc⟩:=zER r
 cases (show u=Value.ref a from rx)
 cases (show w'=Value.ref tp from rc)
 obtain ⟨⟨o,vs',h1,h2,h3,_⟩,_⟩:=I.hok a _ ha
 obtain ⟨its,rv,⟨⟨oc,od,odt,osl⟩,t1,t2,n,t3⟩,hz⟩:=I.tuple ht
 have:=hu its rv
 subst this
 simp only at t2 t3
 subst t2 t3
 exact PySem.W.kia_tup (wX T) I.kIn ⟨o,h1,h2⟩ t1 e (fun z=>nomatch z) fun tk=>⟨.bl b,H,I.tok _,rfl,q⟩
theorem zEG {es:List Expr} {cs:List Str} {k1:Nat} {tp:Pos} (hK:EK X.K X.mg anc xs) (hn:NmL X xs es cs) (hgi:Gl X "isinstance") (hm:X.mg "isinstance" = none) (hv:PE X a (uY i)) (hlen:es.length<=100)
  (h1:starEach [a,.Tuple es k1 tp] X.env=(false,eval a X.env)::starEach [.Tuple es k1 tp] X.env:=by rfl) (h2:starEach [.Tuple es k1 tp] X.env=(false,eval (.Tuple es k1 tp) X.env)::starEach [] X.env:=by rfl) (hpl:(backTo pos (starEach [.Tuple es k1 tp] X.env)).any (·.1)=false:=by rfl):
  PEd X G (.Call (.Name "isinstance" p) [a,.Tuple es k1 tp] [] pos) (uA anc i cs):=by
 intro pins s σ H Q I w
 obtain ⟨ρ,Hi,R,ou⟩:=w
 unfold uA at ou
 cases z:ρ[i]? with
 | none=>rw [z] at ou;exact ou.elim
 | some sl=>
  rw [z] at ou
  cases sl with
  | exc c=>
   obtain ⟨ad,C,o1,o2,o3,o4,o5⟩:=R.slot i _ z
   cases zl:anc.lookup c with
   | none=>simp only [zl] at ou;exact ou.elim
   | some l=>
    simp only [zl] at ou
    obtain ⟨C',m1,T,hxs⟩:=hK c l zl
    rw [o5] at m1
    cases m1
    obtain ⟨vs,cvs,pa,hl0,rv,hu,hk⟩:=NmL.vals (K:=X.K) (C:=C) (l:=l) hxs hn
    have hl:vs.length<=100:=by rw [hl0];exact hlen
    refine iJ zFa hgi hm boot_isinstance (dE hv (dE (zDC pa) gJ h2) h1) (by decide) (by decide) h1 hpl pins s σ H Q I ?_
    refine ⟨.ref ad,o1,Nat.le_trans hl (by decide),fun t ht=>⟨ad,C,t,vs,cvs,_,rfl,?_,T,SqT.of aH,hu,hk,?_⟩⟩
    ·rw [aO (aR o2 ht)];exact o2
    ·exact ou _ _ (Ext.newF R.s ht) (.bl _) (.bl _)
  | un=>exact ou.elim
  | val d=>exact ou.elim
  | own ds=>exact ou.elim
  | tab T=>exact ou.elim
  | ins c fs=>exact ou.elim
end
end L3
namespace L3
open PySem PySem.Spec PyProof.Rows L2 PySem.W
unseal PEd PEf PTd PWd PAd PSd cI POd PGd eA PId PSx eN
theorem pP {α β:Type} [BEq α] [LawfulBEq α] {a:α} {b:β}:∀ {l:List (α×β)},l.lookup a=some b->(a,b)∈l
 | [],h=>by cases h
 | (x,y)::l,h=>by
  rw [List.lookup_cons] at h
  split at h
  ·rename_i e
   cases h
   rw [beq_iff_eq.mp e]
   exact List.mem_cons_self
  ·exact List.mem_cons_of_mem _ (pP h)
section
variable {K:Frag} {h:Heap} {mg:Str->Option Value} {x c ce:Str} {C CE:Addr}
theorem tJ {newId:String} {bmB:List Value} {B initId:String} (X:K.In h) (G:h.Ns mainGlobals mg) (e:nsIn K mainGlobals x=some (some (.ref C))) (q:excIn K C bmB newId=true) (F:ExcBaseFacts B newId initId bmB):∃ C,Err K mg x C:=by
 refine ⟨C,⟨fun h' X'=>⟨bmB,newId,B,initId,⟨mg_of X G e,?_⟩,F⟩⟩⟩
 unfold excIn at q
 split at q
 ·rename_i dd cd sl ho
  split at q
  ·rename_i C' bm k0 k1 k2 k3 n k5 hm hs
   simp only [Bool.and_eq_true,beq_iff_eq,Bool.not_eq_true'] at q
   obtain ⟨⟨⟨⟨⟨rfl,rfl⟩,zIB⟩,ht⟩,hok⟩,hni⟩:=q
   obtain ⟨nm,bs,mro,ns,qn,hd,sn,sub,ab,col,del⟩:=cd
   dsimp only at hm zIB hok hni
   subst hm zIB
   have hsl:sl=#[k0,k1,k2,k3,some (.builtin n),k5]:=by
    obtain ⟨l⟩:=sl
    simp only at hs
    rw [hs]
   subst hsl
   exact ⟨bm,ns,nm,qn,bs,hd,sn,sub,ab,col,dd,k0,k1,k2,k3,k5,_,X' _ _ ho,.of_isNs (isNs_of_in X' hok),nsMap_none_of_in X' hok hni,tail_of_in X' ht⟩
  ·cases q
 ·cases q
theorem zDu (q:hasDictIn K C=true):(clsIn K C).isSome=true:=by
 obtain ⟨cd,hc,_⟩:=any_some q
 rw [hc];rfl
theorem lL (h1:hasDictIn K C=true) (h2:findIn K (.ref C) "__getattribute__" = some (some (.builtin "BaseException.__getattribute__"))) (h3:findIn K (.ref C) "__getattr__" = some none) (h4:findIn K (.ref C) "__class__" = some (some (.builtin "object.__class__")))
  (h5:specialIn K (.builtin "object.__class__") "__get__" = some (some (.builtin "getset_descriptor.__get__"))) (h6:takesIn K (.builtin "object.__class__")=some true) (h7:mroIn K C (.type "object")=some true) (h8:mroIn K C (.type "BaseException")=some true):ExK K C:=
 ⟨zDu h1,h2,h3,h4,h5,h6,h7,h8⟩
theorem vU (h1:typeIn K (.ref CE)=some (.type "type")) (h2:hasDictIn K CE=true) (h3:mroIn K CE (.type "BaseException")=some true):CaK K CE:=⟨h1,zDu h2,h3⟩
theorem aI (X:K.In h) (G:h.Ns mainGlobals mg) (e:nsIn K mainGlobals x=some (some (.ref C))):zHA mg x (.ref C) (.ref C):=⟨rfl,.inl (mg_of X G e)⟩
theorem mU {T:String} (X:K.In h) (G:h.Ns mainGlobals mg) (e:nsIn K mainGlobals x=some none) (hb:bootBuiltins x=some (.type T)) (hn:x ≠ "__name__"):zHA mg x (.ty T) (.type T):=⟨rfl,.inr ⟨mg_none_of X G e,hb,hn⟩⟩
end
end L3
namespace L3
open PySem PySem.Spec PyProof.Rows L2
unseal PEd PEf PTd PWd PAd PSd cI POd PGd eA PId PSx eN
def uB (env:Env):List (Str×NameKind)->List (Str×Addr)->List (Str×Addr)
 | [],cs=>cs
 | (n,k)::r,cs=>uB env r (if k==.free then (n,(env.cells.lookup n).getD 0)::cs else cs)
theorem zCZ {env:Env}:∀ (l:List (Str×NameKind)) (cs:List (Str×Addr)),(∀ p∈l,p.2=.free->∃ c,env.cells.lookup p.1=some c)->
  (forIn l cs (fun p (r:List (Str×Addr))=>if (p.2==NameKind.free)=true then (do let a <-cellOf env p.1;pure (ForInStep.yield ((p.1,a)::r))) else pure (ForInStep.yield r)):Sem (List (Str×Addr)))=pure (uB env l cs)
 | [],cs,_=>by simp [uB]
 | (n,k)::r,cs,h=>by
  rw [List.forIn_cons,uB]
  have ih:=fun cs=>zCZ r cs fun p hp=>h p (List.mem_cons_of_mem _ hp)
  by_cases e:(k==NameKind.free)=true
  ·obtain ⟨c,hc⟩:=h (n,k) List.mem_cons_self (beq_iff_eq.mp e)
   simp only [e,if_true,cellOf,hc,pure_bind,Option.getD_some]
   exact ih _
  ·simp only [e,Bool.false_eq_true,if_false,pure_bind]
   exact ih _
theorem yT {env:Env} {scope:Scope} (h:∀ p∈scope.names,p.2=.free->∃ c,env.cells.lookup p.1=some c):closureFor scope env=pure (uB env scope.names []):=by
 have:=zCZ scope.names [] h
 unfold closureFor
 rw [<-this]
 simp
theorem lI {env:Env}:∀ (l:List (Str×NameKind)) (cs:List (Str×Addr)),(∀ p∈l,p.2=.free->∃ c,env.cells.lookup p.1=some c)->(∀ y c,cs.lookup y=some c->env.cells.lookup y=some c)->
  ∀ y c,(uB env l cs).lookup y=some c->env.cells.lookup y=some c
 | [],cs,_,h,y,c,e=>h y c e
 | (n,k)::r,cs,hl,h,y,c,e=>by
  rw [uB] at e
  refine lI r _ (fun p hp=>hl p (List.mem_cons_of_mem _ hp)) (fun y c e=>?_) y c e
  by_cases z:(k==NameKind.free)=true
  ·obtain ⟨c',hc⟩:=hl (n,k) List.mem_cons_self (beq_iff_eq.mp z)
   simp only [z,if_true,List.lookup_cons,hc,Option.getD_some] at e
   cases w:y==n with
   | true=>rw [w] at e;cases e;rw [beq_iff_eq.mp w];exact hc
   | false=>rw [w] at e;exact h y c e
  ·simp only [z,Bool.false_eq_true,if_false] at e
   exact h y c e
theorem wQ {env:Env}:∀ (l:List (Str×NameKind)) (cs:List (Str×Addr)) (y:Str),(∃ c,cs.lookup y=some c)->∃ c,(uB env l cs).lookup y=some c
 | [],cs,y,h=>h
 | (n,k)::r,cs,y,⟨c,h⟩=>by
  rw [uB]
  refine wQ r _ y ?_
  split
  ·rw [List.lookup_cons]
   cases y==n with
   | true=>exact ⟨_,rfl⟩
   | false=>exact ⟨c,h⟩
  ·exact ⟨c,h⟩
theorem oF {env:Env}:∀ (l:List (Str×NameKind)) (cs:List (Str×Addr)) (y:Str),(y,NameKind.free)∈l->∃ c,(uB env l cs).lookup y=some c
 | (n,k)::r,cs,y,h=>by
  rw [uB]
  rcases List.mem_cons.mp h with e | h
  ·cases e
   refine wQ r _ _ ⟨(env.cells.lookup n).getD 0,?_⟩
   simp only [beq_self_eq_true,if_true,List.lookup_cons]
  ·exact oF r _ y h
theorem bG {α:Type}:∀ {l:List (Str×α)} {y:Str} {k:α},l.lookup y=some k->(y,k)∈l
 | (n,k')::r,y,k,h=>by
  rw [List.lookup_cons] at h
  cases z:y==n with
  | true=>rw [z] at h;cases h;rw [beq_iff_eq.mp z];exact List.mem_cons_self
  | false=>rw [z] at h;exact List.mem_cons_of_mem _ (bG h)
theorem bR {env:Env}:∀ {l:List (Str×NameKind)} {y:Str} {k:NameKind},
  (l.map fun (n,k)=>if (k==NameKind.free && env.scope.kind==.function && env.kindOf n==some .cell) then (n,NameKind.cell) else (n,k)).lookup y=some k->
  l.lookup y=some k∨(k=.cell/\l.lookup y=some .free)
 | (n,k')::r,y,k,h=>by
  rw [List.map_cons] at h
  rw [List.lookup_cons]
  by_cases c:(k'==NameKind.free && env.scope.kind==.function && env.kindOf n==some .cell)=true
  ·simp only [c,if_true,List.lookup_cons] at h
   cases z:y==n with
   | true=>
    rw [z] at h
    cases h
    refine .inr ⟨rfl,?_⟩
    simp only [Bool.and_eq_true] at c
    rw [beq_iff_eq.mp c.1.1]
   | false=>rw [z] at h;exact bR h
  ·simp only [c,Bool.false_eq_true,if_false,List.lookup_cons] at h
   cases z:y==n with
   | true=>rw [z] at h;exact .inl h
   | false=>rw [z] at h;exact bR h
def msk (x y:Str):Str:=if y=x then ("" : Str) else y
structure BlkOk (X:Cx) (x:Str) (scope:Scope):Prop where
 kind:scope.kind=.function
 cell:∀ y∈scope.names,y.2≠.cell
 loc:scope.names.lookup x=some .local
 names:∀ y∈scope.names,y.2=.local->scope.names.lookup y.1=some .local
 fre:∀ p∈scope.names,p.2=.free->X.env.kindOf p.1=some .cell∨X.env.kindOf p.1=some .free
 oth:∀ y∈X.N,y≠x->scope.names.lookup y≠some .local
 emp:scope.names.lookup ("" : Str)=none
def cxC (X:Cx) (x:Str) (scope:Scope) (C:Addr) (s₂:Shared) (H₂:Hp) (fp:List Addr):Cx:=
  { prog:=X.prog,w:=X.w,K:=X.K,mg:=X.mg,base:=X.base,A:=X.A,N:=X.N.map (msk x)++[x],s₀:=s₂,H₀:=H₂,env:=compEnvC scope (uB X.env scope.names []) C X.env,outer:=X.stack,stack:=X.stack,
    ex:=fp,fn:=fun _=>false,calm:=X.calm,pn:=X.pn,xe:=fun _ _=>False }
section
variable {X:Cx} {pins:List (Addr×Obj)} {σ:St} {H:Hp} {s₂:Shared} {x:Str} {scope:Scope} {fp:List Addr} {D C:Addr} {h₁:Heap}
theorem BlkOk.cl (B:BlkOk X x scope) (I:Inv X pins σ H s₂):∀ p∈scope.names,p.2=.free->∃ c,X.env.cells.lookup p.1=some c:=fun p hp e=>I.ok.has p.1 (B.fre p hp e)
theorem zGT (I:Inv X pins σ H s₂) (B:BlkOk X x scope) (hfp:∀ b∈fp,jR X pins H b) (hfl:∀ b∈fp,b < s₂.heap.objs.size) (hD:s₂.heap.objs.size<=D) (hC:s₂.heap.objs.size<=C) (hDC:D≠C)
  (old:∀ b o,s₂.heap.get? b=some o->h₁.get? b=some o) {n:Nat} (hacc:h₁.get? D=some { cls:=.type "list", data:=.seq ([]:List Value).toArray n }) {m:Str->Option Value} (hns:h₁.Ns C m) (t:Nat):
  Inv (cxC X x scope C s₂ H fp) pins (σ++[none]) (upd H D (.lst [])) { s₂ with heap:=h₁,toks:=t }:=by
 have sub:=lI scope.names [] (B.cl I) (fun y c e=>nomatch e)
 have old_lt:∀ {b:Addr} {o:Obj},s₂.heap.get? b=some o->b≠D/\b≠C:=fun e=>⟨Nat.ne_of_lt (Nat.lt_of_lt_of_le (Heap.lt_size e) hD),Nat.ne_of_lt (Nat.lt_of_lt_of_le (Heap.lt_size e) hC)⟩
 have free:∀ {b:Addr},b≠D->H b=none->upd H D (.lst []) b=none:=fun n e=>by rw [aO n];exact e
 refine ⟨⟨I.ok.mod,B.kind,I.ok.glob,I.ok.blt,hC,fun y z c e1 e2=>I.ok.inj y z c (sub y c e1) (sub z c e2),fun y hy=>?_,fun y c e=>(nomatch e),I.ok.hd,I.ok.frames,.inl rfl,fun b hb=>⟨Nat.ne_of_lt (Nat.lt_of_lt_of_le (hfl b hb) hC),fun y c e=>(hfp b hb).2.2.2.2.1 y c (sub y c e)⟩,
  I.bs,Nat.le_trans I.ok.bsz I.sz,fun b o e hb=>?_,fun b hb z=>?_,I.stack,I.stkFree⟩,rfl,I.bare,Un.laid old hD (I.hok.fresh hD),⟨m,hns,fun i y v e1 e2 e3=>?_⟩,fun y c e=>?_,free (Ne.symm hDC) (I.hok.fresh hC),fun y c e=>?_,fun p hp=>?_,I.hok.laid old hD ⟨Nat.zero_le _,[],n,.nil,hacc⟩,?_⟩
 ·have:∃ k,(k=NameKind.cell∨k=NameKind.free)/\((relabel scope X.env).names).lookup y=some k:=hy.elim (fun h=>⟨_,.inl rfl,h⟩) fun h=>⟨_,.inr rfl,h⟩
  obtain ⟨k,hk,e⟩:=this
  have e':(y,NameKind.free)∈scope.names:=by
   rcases bR e with z | ⟨_,z⟩
   ·rcases hk with rfl | rfl
    ·exact absurd rfl (B.cell _ (bG z))
    ·exact bG z
   ·exact bG z
  exact oF scope.names [] y e'
 ·rcases (hfp b hb).2.2.2.1 with z | z
  ·exact I.ok.noex b o e z
  ·exact absurd (Nat.lt_of_lt_of_le (Heap.lt_size e) (Nat.le_trans I.ok.bsz z)) (Nat.lt_irrefl _)
 ·rcases List.mem_cons.mp (I.stkSub b z) with w | w
  ·exact (hfp b hb).2.1 w
  ·exact (hfp b hb).2.2.1 w
 ·
  have hi:i < σ.length:=by
   by_cases hi:i < σ.length
   ·exact hi
   ·exfalso
    rw [List.getElem?_append_right (by omega)] at e2
    cases q:i - σ.length with
    | zero=>rw [q] at e2;cases e2
    | succ j=>rw [q] at e2;cases e2
  rw [List.getElem?_append_left hi] at e2
  have e1':(X.N.map (msk x)++[x])[i]?=some y:=e1
  rw [List.getElem?_append_left (by rw [List.length_map,<-I.len];exact hi),List.getElem?_map] at e1'
  cases q:X.N[i]? with
  | none=>rw [q] at e1';cases e1'
  | some z=>
   rw [q] at e1'
   have e1'':msk x z=y:=Option.some.inj e1'
   have hz:z∈X.N:=List.mem_of_getElem? q
   have vis:∃ k,((relabel scope X.env).names).lookup y=some k:=e3.elim (fun h=>⟨_,h⟩) fun h=>h.elim (fun h=>⟨_,h⟩) fun h=>⟨_,h⟩
   have hzx:z≠x:=fun w=>by
    obtain ⟨k,hk⟩:=vis
    have:y=("" : Str):=by rw [<-e1'',w];exact if_pos rfl
    rw [this] at hk
    rcases bR hk with h | ⟨_,h⟩<;>(rw [B.emp] at h;cases h)
   have hy:z=y:=by rw [<-e1''];exact (if_neg hzx).symm
   subst hy
   have fr:(z,NameKind.free)∈scope.names:=by
    rcases e3 with h | h | h
    ·rcases bR h with h | ⟨h,_⟩
     ·exact absurd h (B.oth z hz hzx)
     ·cases h
    ·rcases bR h with h | ⟨_,h⟩
     ·exact absurd rfl (B.cell _ (bG h))
     ·exact bG h
    ·rcases bR h with h | ⟨h,_⟩
     ·exact bG h
     ·cases h
   have kd:=B.fre _ fr rfl
   obtain ⟨m0,hn0,hl⟩:=I.loc
   obtain ⟨u,ru,lk⟩:=hl i z v q e2 (kd.elim (fun h=>.inr (.inl h)) fun h=>.inr (.inr h))
   refine ⟨u,ru,.inr ⟨?_,?_⟩⟩
   ·rcases e3 with h | h | h
    ·rcases bR h with h | ⟨h,_⟩
     ·exact absurd h (B.oth z hz hzx)
     ·cases h
    ·exact .inl h
    ·exact .inr h
   ·rcases lk with ⟨k1,_⟩ | ⟨_,c,hc,hcell⟩
    ·rcases kd with kd | kd<;>(rw [kd] at k1;cases k1)
    ·obtain ⟨c',hc'⟩:=oF (env:=X.env) scope.names [] z fr
     have:=sub z c' hc'
     rw [hc] at this
     cases this
     obtain ⟨o,ho,hd⟩:=hcell
     exact ⟨c,hc',o,old _ _ ho,hd⟩
 ·obtain ⟨v,o,ho,hd⟩:=I.cell y c (sub y c e)
  exact ⟨v,o,old _ _ ho,hd⟩
 ·obtain ⟨v,o,ho,hd⟩:=I.cell y c (sub y c e)
  exact free (old_lt ho).1 (I.freeC y c (sub y c e))
 ·obtain ⟨e,n,ne,nf,d⟩:=I.pin p hp
  refine ⟨old _ _ e,free (old_lt e).1 n,(old_lt e).2,fun z=>?_,d⟩
  rcases List.mem_cons.mp (I.stkSub _ z) with w | w
  ·exact ne w
  ·exact nf w
 ·show (σ++[none]).length=(X.N.map (msk x)++[x]).length
  rw [List.length_append,List.length_append,List.length_map,I.len];rfl
end
end L3
namespace L3
open PySem PySem.Spec PyProof.Rows L2
unseal PEd PEf PTd PWd PAd PSd cI POd PGd eA PId PSx eN
section
variable {K:PySem.W.Frag} {mg:Str->Option Value} {B Bi Hi H Hi' H':Hp} {σ:St} {ρ:Rho}
theorem Rel.snoc {v:V} {d:D} (R:Rel K mg B Bi Hi H σ ρ) (h:IsD K Hi v d):Rel K mg B Bi Hi H (σ++[some v]) (ρ++[.val d]) where
 len:=by rw [List.length_append,List.length_append,R.len];rfl
 ext:=R.ext
 slot:=fun j s q=>by
  by_cases hl:j < ρ.length
  ·rw [List.getElem?_append_left hl] at q
   rw [List.getElem?_append_left (by rw [R.len];exact hl)]
   exact R.slot j s q
  ·rw [List.getElem?_append_right (by omega)] at q
   rw [List.getElem?_append_right (by rw [R.len];omega),R.len]
   cases z:j - ρ.length with
   | zero=>rw [z] at q;cases q;exact ⟨v,rfl,h⟩
   | succ n=>rw [z] at q;cases q
 dist:=fun j k a ds es q1 q2 q3 q4=>by
  have own:∀ {j:Nat} {ds:List D},(ρ++[Sl.val d])[j]?=some (.own ds)->j < ρ.length:=fun {j ds} q=>by
   by_cases hl:j < ρ.length
   ·exact hl
   ·rw [List.getElem?_append_right (by omega)] at q
    cases z:j - ρ.length with
    | zero=>rw [z] at q;cases q
    | succ n=>rw [z] at q;cases q
  have h1:=own q1
  have h2:=own q2
  rw [List.getElem?_append_left h1] at q1
  rw [List.getElem?_append_left h2] at q2
  rw [List.getElem?_append_left (by rw [R.len];exact h1)] at q3
  rw [List.getElem?_append_left (by rw [R.len];exact h2)] at q4
  exact R.dist j k a ds es q1 q2 q3 q4
theorem Ext.rewrite {a:Addr} {o:HO} (e:Ext Hi H Hi' H') (hn:H a=none) (hi:Hi' a=none) (hl:∃ xs,H' a=some (.lst xs)):Ext Hi H Hi' (upd H' a o) where
 i:=e.i
 h:=⟨fun b u z=>by rw [aO (aR z hn)];exact e.h.k _ _ z,fun P z=>by
  obtain ⟨xs,hl⟩:=hl
  exact (e.h.t P z).put (fun ps y=>by rw [hl] at y;cases y) (fun ob u y=>by rw [hl] at y;cases y)⟩
 s:=fun b u z=>by rw [aO (aR z hi)];exact e.s _ _ z
 n:=e.n
theorem IsDs.snoc {v:V} {d:D} (h:IsD K H v d):∀ {vs:List V} {ds:List D},IsDs K H vs ds->IsDs K H (vs++[v]) (ds++[d])
 | _,_,.nil=>.cons h .nil
 | _,_,.cons r t=>.cons r (IsDs.snoc h t)
end
theorem qH {α:Type} {r:Res α} {a:α} (h:noErr r=.ok a):r=.ok a:=by
 cases r with
 | ok b=>exact h
 | err c=>cases h
 | no=>cases h
theorem pZ {t:Tv} {f:Ev} {ρ:Rho} {d:D} {ds es:List D} (h:dJ t f ρ (d::ds)=.ok es):
  (t (ρ++[.val d])=.ok false/\dJ t f ρ ds=.ok es)∨(t (ρ++[.val d])=.ok true/\∃ e es',f (ρ++[.val d])=.ok e/\dJ t f ρ ds=.ok es'/\es=e::es'):=by
 rw [dJ] at h
 cases ht:noErr (t (ρ++[.val d])) with
 | no=>rw [ht] at h;cases h
 | err c=>rw [ht] at h;cases h
 | ok c=>
  rw [ht] at h
  have ht':=qH ht
  cases c with
  | false=>exact .inl ⟨ht',h⟩
  | true=>
   refine .inr ⟨ht',?_⟩
   have h':((noErr (f (ρ++[.val d]))).bind fun e=>(dJ t f ρ ds).bind fun es=>.ok (e::es))=.ok es:=h
   cases hf:noErr (f (ρ++[.val d])) with
   | no=>rw [hf] at h';cases h'
   | err c=>rw [hf] at h';cases h'
   | ok e=>
    rw [hf] at h'
    have h'':((dJ t f ρ ds).bind fun es=>.ok (e::es))=.ok es:=h'
    cases hr:dJ t f ρ ds with
    | no=>rw [hr] at h'';cases h''
    | err c=>rw [hr] at h'';cases h''
    | ok es'=>
     rw [hr] at h''
     cases h''
     exact ⟨e,es',qH hf,rfl,rfl⟩
theorem mK {t:Tv} {f:Ev} {ρ:Rho} {c:Str}:∀ {ds:List D},dJ t f ρ ds≠.err c
 | []=>fun h=>by cases h
 | d::ds=>fun h=>by
  rw [dJ] at h
  cases ht:noErr (t (ρ++[.val d])) with
  | no=>rw [ht] at h;cases h
  | err c=>cases q:t (ρ++[.val d])<;>(rw [q] at ht;cases ht)
  | ok b=>
   rw [ht] at h
   cases b with
   | false=>exact mK h
   | true=>
    have h':((noErr (f (ρ++[.val d]))).bind fun e=>(dJ t f ρ ds).bind fun es=>.ok (e::es))=.err c:=h
    cases hf:noErr (f (ρ++[.val d])) with
    | no=>rw [hf] at h';cases h'
    | err c=>cases q:f (ρ++[.val d])<;>(rw [q] at hf;cases hf)
    | ok e=>
     rw [hf] at h'
     cases hr:dJ t f ρ ds with
     | no=>simp only [Res.bind,hr] at h';cases h'
     | err c'=>exact mK hr
     | ok es=>simp only [Res.bind,hr] at h';cases h'
@[irreducible] def PTs (X:Cx) (G:Gx) (ifs:List Expr) (t:Tv):Prop:=
 ∀ (pins:List (Addr×Obj)) (s:Shared) (σ:St) (H:Hp) (Q:Bool->Hp->Prop),Inv X pins σ H s->tTb X G t σ H Q->
  wpAny (model X.prog X.w) X.A (forIn ifs true fun c r=>if r=true then do let ok <-isTrue c X.env (eval c X.env);pure (ForInStep.yield ok) else pure (ForInStep.yield r)) (TP X pins σ Q) X.xe s
unseal PTs
theorem zBD {X:Cx} {G:Gx}:PTs X G [] vI:=fun pins s σ H Q I ⟨ρ,Hi,R,o⟩=>wpAny_tests_nil ⟨H,I,Out.here (a:=true) o R.s⟩
end L3
namespace L3
open PySem PySem.Spec PyProof.Rows L2
unseal PEd PEf PTd PWd PAd PSd cI POd PGd eA PId PSx eN PTs
section
variable {X:Cx} {G:Gx} {elt iter:Expr} {x:Str} {px pos:Pos} {ifs:List Expr} {scope:Scope} {it:Fv} {t:Tv} {f:Ev} {k:Nat}
theorem zA {M:Model} {A:Around} {α:Type} {m:Sem α} {itv u:Value} {s:Shared} {Q1:Unit->Shared->Prop} {R1:α->Shared->Prop} {E:Value->Shared->Prop} (h:wpAny M A (letOwnedTupleGo (.Name x px) itv u) Q1 E s)
  (k:∀ s5,Q1 () s5->wpAny M A m R1 E s5):wpAny M A m R1 E s:=by
 have key:=wpAny_bind (f:=fun _:Unit=>m) (wpAny_mono h (fun _ s5 h5=>k s5 h5) fun _ _ z=>z)
 have e:(letOwnedTupleGo (.Name x px) itv u >>= fun _=>m)=m:=pure_bind () fun _=>m
 rw [e] at key
 exact key
theorem sA {N:List Str} (hN:N.Nodup) (h0:("" : Str)∉N) (hx:x≠("" : Str)):(N.map (msk x)++[x]).Nodup:=by
 rw [List.nodup_append]
 refine ⟨?_,List.nodup_cons.mpr ⟨by simp,List.nodup_nil⟩,fun a ha b hb e=>?_⟩
 ·induction N with
  | nil=>exact List.nodup_nil
  | cons y N ih=>
   rw [List.map_cons,List.nodup_cons]
   obtain ⟨hy,hN⟩:=List.nodup_cons.mp hN
   refine ⟨fun hm=>?_,ih hN fun z=>h0 (List.mem_cons_of_mem _ z)⟩
   obtain ⟨z,hz,e⟩:=List.mem_map.mp hm
   unfold msk at e
   by_cases c1:z=x
   ·by_cases c2:y=x
    ·exact hy (by rw [c2,<-c1];exact hz)
    ·rw [if_pos c1,if_neg c2] at e;exact h0 (by rw [e];exact List.mem_cons_self)
   ·by_cases c2:y=x
    ·rw [if_neg c1,if_pos c2] at e;exact h0 (by rw [<-e];exact List.mem_cons_of_mem _ hz)
    ·rw [if_neg c1,if_neg c2] at e;exact hy (by rw [<-e];exact hz)
 ·obtain ⟨z,hz,e1⟩:=List.mem_map.mp ha
  rw [List.mem_singleton] at hb
  subst hb
  subst e
  unfold msk at e1
  split at e1
  ·exact hx e1.symm
  ·rename_i c;exact c e1
structure CW where
 i:Nat
 v:List (Option V)
 H:Hp
 Hi:Hp
 ys:List V
 done:List D
 rest:List D
structure CS (Y:Cx) (pins:List (Addr×Obj)) (σ:St) (tn:Nat->Heap->Prop) (fp:List Addr) (Hi2 H2:Hp) (a:Addr) (m:Nat) (cp:Nat->Res (List D)) (es:List D) (c:CW) (s':Shared):Prop where
 inv:Inv Y pins (σ++c.v) c.H s'
 wid:c.v.length=m
 tn:tn c.i s'.heap
 fr:∀ b∈fp,c.H b=none
 ext:Ext Hi2 H2 c.Hi c.H
 acc:c.H a=some (.lst c.ys)
 hi:c.Hi a=none
 isd:IsDs Y.K c.Hi c.ys c.done
 len:c.done.length<=c.i
 cmp:cp c.i=.ok c.rest
 all:es=c.done++c.rest
def zIb (X:Cx) (pins:List (Addr×Obj)) (σ:St) (use:Option (Value->Sem Unit)) (Q':Value->Shared->Prop) (Qa:Addr->Hp->Prop):Prop:=
 ∀ (C A:Addr) (m:Str->Option Value) (s4:Shared) (H3:Hp),s4.heap.Ns C m->(∀ h',Heap.SameBut C s4.heap h'->Inv X pins σ H3 { s4 with heap:=h' })->jR X pins H3 C->Qa A H3->
  compPost (model X.prog X.w) X.A X.xe use Q' (.ref A) C (.ok .next) s4
theorem zBC (hc:X.calm=true/\TB X.K X.mg G.Bi G.B) (hr:Room k X.A) (Bk:BlkOk X x scope) (hN:X.N.Nodup) (h0:("" : Str)∉X.N) (hx0:x≠("" : Str)) (hi:PId X G (.Name x px) iter it)
  (hb:∀ (C:Addr) (s₂:Shared) (H₂:Hp) (fp:List Addr) (G':Gx),Good (cxC X x scope C s₂ H₂ fp) G' k->PTs (cxC X x scope C s₂ H₂ fp) G' ifs t/\PEd (cxC X x scope C s₂ H₂ fp) G' elt f)
  (hs:∀ x,foldedSetIterable iter X.env x=pure x:=by intro _;rfl)
  {pins:List (Addr×Obj)} {s:Shared} {σ:St} {H Hi:Hp} {ρ:Rho} {use:Option (Value->Sem Unit)} {Q':Value->Shared->Prop} {Qa:Addr->Hp->Prop} {cpos:Pos} (I:Inv X pins σ H s) (R:fN X G Hi H σ ρ)
  (ou:Out G Hi H ((rB it t f) ρ) fun ds Hi' H'=>∀ a,zAJ X.K H Hi' H' a ds->Qa a H') (hend:zIb X pins σ use Q' Qa):
  wpAny (model X.prog X.w) X.A (comprehension (.ListComp elt [⟨.Name x px,iter,ifs,0⟩] scope pos) scope X.env cpos (newList []) false (eval iter X.env) use) Q' X.xe s:=by
 refine wpAny_comprehension_free (use:=use) rfl hs (yT (Bk.cl I)) Bk.kind Bk.names ?_
 refine thn (hi pins s σ H (fun J H2=>∃ ds Hi2,Ext Hi H Hi2 H2/\oM X.K Hi2 J ds/\Out G Hi2 H2 (if ds.length<=16777215 then dJ t f ρ ds else .no) fun ds Hi' H'=>∀ a,zAJ X.K H Hi' H' a ds->Qa a H') I
  ⟨ρ,Hi,R,(Out.bind ou).imp fun ds Hi2 H2 e2 o2 J gv=>⟨ds,Hi2,e2,gv,o2⟩⟩) fun v s1 h1=>thn h1 fun itv s2 h2=>?_
 obtain ⟨itA,fp,tn,J,H2,rfl,I2,T,st2,f2,ds,Hi2,e2,gv,ou2⟩:=h2
 have hlen:ds.length<=16777215:=by
  by_cases hlen:ds.length<=16777215
  ·exact hlen
  ·rw [if_neg hlen] at ou2;exact ou2.elim
 rw [if_pos hlen] at ou2
 cases hes:dJ t f ρ ds with
 | no=>rw [hes] at ou2;exact ou2.elim
 | err c=>exact absurd hes mK
 | ok es=>
  rw [hes] at ou2
  have R2:fN X G Hi2 H2 σ ρ:=R.grow e2
  refine wpAny_newObj_type (wpAny_newFunctionEnv Bk.cell (by intro y hy;simp at hy) (fun h₁ hns₁ hsb₁=>?_) Bk.kind)
  dsimp only at hns₁ hsb₁ ⊢
  generalize hH2:s2.heap.push { cls:=.type "list", dict:=none,data:=.seq ([]:List Value).toArray }=HP at hns₁ hsb₁ ⊢
  have hC:HP.objs.size=s2.heap.objs.size+1:=by rw [<-hH2,Heap.size_push]
  have hDC:s2.heap.objs.size≠HP.objs.size:=by rw [hC];omega
  have ltC:∀ {b:Addr} {o:Obj},s2.heap.get? b=some o->b≠HP.objs.size:=fun e=>by rw [hC];exact Nat.ne_of_lt (Nat.lt_succ_of_lt (Heap.lt_size e))
  have old:∀ b o,s2.heap.get? b=some o->h₁.get? b=some o:=fun b o e=>hsb₁.extBut b o (ltC e) (Heap.get?_push_of_some _ (hH2 ▸ Heap.get?_push_of_some _ e))
  have hacc:h₁.get? s2.heap.objs.size=some { cls:=.type "list", data:=.seq ([]:List Value).toArray 0 }:=hsb₁.extBut _ _ hDC (Heap.get?_push_of_some _ (hH2 ▸ Heap.get?_push_size _ rfl))
  have hfl:∀ b∈fp,b < s2.heap.objs.size:=fun b hb=>by obtain ⟨o,e,_⟩:=T.obj _ _ st2 b hb;exact Heap.lt_size e
  have IE:=zGT (t:=s2.toks+([]:List (Str×Value)).length) I2 Bk f2 hfl (Nat.le_refl _) (by rw [hC];omega) hDC old hacc hns₁
  have sub:=lI scope.names [] (Bk.cl I2) (fun y c e=>nomatch e)
  have H2D:H2 s2.heap.objs.size=none:=I2.hok.fresh (Nat.le_refl _)
  have HD:H s2.heap.objs.size=none:=e2.h.none H2D
  have Hi2D:Hi2 s2.heap.objs.size=none:=e2.s.none H2D
  generalize hX:cxC X x scope HP.objs.size s2 H2 fp=Y at IE
  have GY:Good Y ⟨G.B,G.Bi,fun _ _=>False⟩ k:=by
   subst hX
   exact ⟨hc.1,hr,fun pins σ H s e s' _ h=>by obtain ⟨_,_,_,_,_,c,_,z⟩:=h;exact z.elim,PassesOwn.never,hc.2⟩
  obtain ⟨hts,hel⟩:=(hX ▸ hb HP.objs.size s2 H2 fp ⟨G.B,G.Bi,fun _ _=>False⟩ (hX.symm ▸ GY):PTs Y ⟨G.B,G.Bi,fun _ _=>False⟩ ifs t/\PEd Y ⟨G.B,G.Bi,fun _ _=>False⟩ elt f)
  have stat:∀ {H':Hp},(∀ b∈fp,H' b=none)->∀ b∈fp,jR Y pins H' b:=fun hn b hb=>by
   subst hX
   refine ⟨hn b hb,?_,fun z=>?_,.inl hb,fun y c e=>(f2 b hb).2.2.2.2.1 y c (sub y c e),(f2 b hb).2.2.2.2.2⟩
   ·show b≠HP.objs.size
    rw [hC];exact Nat.ne_of_lt (Nat.lt_succ_of_lt (hfl b hb))
   ·rcases List.mem_cons.mp (I2.stkSub b z) with w | w
    ·exact (f2 b hb).2.1 w
    ·exact (f2 b hb).2.2.1 w
  have YN:Y.N.Nodup:=by subst hX;exact sA hN h0 hx0
  have Yx:Y.N[σ.length]?=some x:=by
   subst hX
   show (X.N.map (msk x)++[x])[σ.length]?=some x
   rw [List.getElem?_append_right (by rw [List.length_map,I2.len];omega),List.length_map,I2.len,Nat.sub_self]
   rfl
  have Yl:Y.env.scope.names.lookup x=some .local:=by subst hX;exact lookup_relabel_local Bk.loc
  have Ye:Y.env=compEnvC scope (uB X.env scope.names []) HP.objs.size X.env:=by subst hX;rfl
  have Yxe:∀ e s,¬ Y.xe e s:=by subst hX;exact fun _ _ h=>h
  have tn1:tn 0 h₁:=T.keep _ _ _ st2 fun b _ o e=>old b o e
  have dX:∀ s3:Shared,s3={ s2 with heap:=h₁,toks:=s2.toks+([]:List (Str×Value)).length }->
    codeAny (model X.prog X.w) X.A (.compLoop (.ListComp elt [⟨.Name x px,iter,ifs,0⟩] scope pos) 0 (.ref itA) (.ref s2.heap.objs.size) Y.env) (compPost (model X.prog X.w) X.A X.xe use Q' (.ref s2.heap.objs.size) HP.objs.size) s3:=by
   rintro s3 rfl
   subst hX
   have fr0:∀ b∈fp,upd H2 s2.heap.objs.size (.lst []) b=none:=fun b hb=>by
    rw [aO (Nat.ne_of_lt (hfl b hb))]
    exact (f2 b hb).1
   refine codeAny_compLoop_tests (fun n s'=>∃ c:CW,n=ds.length - c.i/\CS (cxC X x scope HP.objs.size s2 H2 fp) pins σ tn fp Hi2 H2 s2.heap.objs.size 1 (fun i=>dJ t f ρ (ds.drop i)) es c s') ?_ ds.length
    ⟨⟨0,[none],_,Hi2,[],[],es⟩,rfl,⟨IE,rfl,tn1,fr0,(Ext.refl e2.s).trans (Ext.newF e2.s H2D),aH,Hi2D,.nil,Nat.le_refl _,hes,rfl⟩⟩
   ·rintro n s3 ⟨⟨i,vv,H3,Hi3,ys,done,rest⟩,rfl,I3,wd3,st3,fr3,e3,hD3,hiD3,rd3,hl3,hr3,hes3⟩
    dsimp only at I3 wd3 st3 fr3 e3 hD3 hiD3 rd3 hl3 hr3 hes3 ⊢
    obtain ⟨v,rfl⟩:∃ v,vv=[v]:=by
     match vv,wd3 with
     | [v],_=>exact ⟨v,rfl⟩
    obtain ⟨w1,w2⟩:=gv Hi3 H3 e3.i e3.s i
    have lift:∀ {α:Type} {m:Sem α} {Q':α->Shared->Prop} {E:Value->Shared->Prop} {s':Shared},wpAny (model X.prog X.w) X.A m Q' (cxC X x scope HP.objs.size s2 H2 fp).xe s'->wpAny (model X.prog X.w) X.A m Q' E s':=fun h=>wpAny_mono h (fun _ _ z=>z) fun e s z=>(Yxe e s z).elim
    by_cases hlt:i < ds.length
    ·obtain ⟨d,hd⟩:∃ d,ds[i]?=some d:=⟨_,List.getElem?_eq_getElem hlt⟩
     obtain ⟨go,yl⟩:=w2 d hd
     have e4:ds.drop i=d::ds.drop (i+1):=by
      rw [List.getElem?_eq_getElem hlt] at hd
      cases hd
      exact List.drop_eq_getElem_cons hlt
     rw [e4] at hr3
     refine thn (T.item (cxC X x scope HP.objs.size s2 H2 fp) rfl rfl rfl hc.1 i pins s3 _ H3 _ I3 (stat fr3) st3 go) fun r s4 ⟨u,hru,h4⟩=>?_
     subst hru
     refine zA h4 fun s5 h5=>?_
     obtain ⟨xv,H5,I5,r5,y5,st5,fr5⟩:=h5
     obtain ⟨Hi5,e5,rd5⟩:=yl xv H5 y5
     have I5':=I5.pinned (stat fr5) (T.obj _ _ st5)
     refine wpAny_assign_Name (fY I5' YN Yx (.inl Yl) r5 (fun s6 I6=>?_) (.inr Yl))
     have es6:(σ++[v]).set σ.length (some xv)=σ++[some xv]:=by rw [List.set_append_right _ _ (Nat.le_refl _),Nat.sub_self];rfl
     rw [es6] at I6
     have E5:Ext Hi2 H2 Hi5 H5:=e3.trans e5
     have R5:fN (cxC X x scope HP.objs.size s2 H2 fp) ⟨G.B,G.Bi,fun _ _=>False⟩ Hi5 H5 (σ++[some xv]) (ρ++[.val d]):=Rel.snoc (R2.grow E5) rd5
     obtain ⟨hD5,hiD5⟩:=e5.out hD3 hiD3
     have rd5':=rd3.mono e5.i
     have again:∀ {H8 Hi8:Hp} {ys':List V} {done' rest':List D} {s8:Shared},Inv (cxC X x scope HP.objs.size s2 H2 fp) (pins++lK fp s5.heap) (σ++[some xv]) H8 s8->Ext Hi2 H2 Hi8 H8->H8 s2.heap.objs.size=some (.lst ys')->Hi8 s2.heap.objs.size=none->IsDs X.K Hi8 ys' done'->done'.length<=i+1->
       dJ t f ρ (ds.drop (i+1))=.ok rest'->es=done'++rest'->∃ m,m < ds.length - i/\∃ c:CW,m=ds.length - c.i/\CS (cxC X x scope HP.objs.size s2 H2 fp) pins σ tn fp Hi2 H2 s2.heap.objs.size 1 (fun i=>dJ t f ρ (ds.drop i)) es c s8:=fun {H8 Hi8 ys' done' rest' s8} I8 E8 a1 a2 a3 a4 a5 a6=>by
      refine ⟨ds.length - (i+1),by omega,⟨i+1,[some xv],H8,Hi8,ys',done',rest'⟩,rfl,⟨I8.unpinned,rfl,T.keep _ _ _ st5 fun b hb o e=>(I8.pin (b,o) (List.mem_append_right _ (List.mem_append_right _ (cN hb e)))).1,fun b hb=>?_,E8,a1,a2,a3,a4,a5,a6⟩⟩
      obtain ⟨o,e,_⟩:=T.obj _ _ st5 b hb
      exact (I8.pin (b,o) (List.mem_append_right _ (List.mem_append_right _ (cN hb e)))).2.1
     rcases pZ hr3 with ⟨ht,hr4⟩ | ⟨ht,e,es',hf,hr4,hee⟩
     ·refine lift (thn (hts _ s6 _ H5 (fun b H'=>b=false/\∃ Hi',Ext Hi5 H5 Hi' H') I6 ⟨_,Hi5,R5,by rw [ht];exact fun Hi' H' e=>⟨rfl,Hi',e⟩⟩) fun b s7 h7=>?_)
      obtain ⟨H7,I7,rfl,Hi7,e7⟩:=h7
      obtain ⟨hD7,hiD7⟩:=e7.out hD5 hiD5
      exact again I7 (E5.trans e7) hD7 hiD7 (rd5'.mono e7.i) (by omega) hr4 hes3
     ·refine lift (thn (hts _ s6 _ H5 (fun b H'=>b=true/\∃ Hi',Ext Hi5 H5 Hi' H') I6 ⟨_,Hi5,R5,by rw [ht];exact fun Hi' H' e=>⟨rfl,Hi',e⟩⟩) fun b s7 h7=>?_)
      obtain ⟨H7,I7,rfl,Hi7,e7⟩:=h7
      obtain ⟨hD7,hiD7⟩:=e7.out hD5 hiD5
      simp only [if_true]
      refine lift (thn (hel _ s7 _ H7 (fun w H'=>∃ Hi',Ext Hi7 H7 Hi' H'/\IsD X.K Hi' w e) I7 ⟨_,Hi7,R5.grow e7,by rw [hf];exact fun Hi' H' ee w hw=>⟨Hi',ee,hw⟩⟩) fun u8 s8 h8=>?_)
      obtain ⟨w8,H8,I8,r8,Hi8,e8,rw8⟩:=h8
      obtain ⟨hD8,hiD8⟩:=e8.out hD7 hiD7
      have rdy:IsDs X.K Hi8 ys done:=(rd5'.mono e7.i).mono e8.i
      refine lift (thn (jL (X:=(cxC X x scope HP.objs.size s2 H2 fp)) _ s8 _ H8 (.ref s2.heap.objs.size) [w8] (.ref s2.heap.objs.size) [u8] (fun _ H'=>H'=upd H8 s2.heap.objs.size (.lst (ys++[w8]))) I8 rfl (.cons r8 .nil) ⟨_,ys,w8,rfl,rfl,hD8,?_,rfl⟩) fun _ s9 h9=>?_)
      ·rw [rdy.length]
       exact Nat.lt_of_le_of_lt hl3 (Nat.lt_of_lt_of_le hlt (Nat.le_trans hlen (by decide)))
      ·obtain ⟨_,H9,I9,_,rfl⟩:=h9
       refine again I9 (Ext.rewrite ((E5.trans e7).trans e8) H2D hiD8 ⟨_,hD8⟩) aH hiD8 (rdy.snoc rw8) (by rw [List.length_append];exact Nat.succ_le_succ hl3) hr4 ?_
       rw [hes3,hee,List.append_assoc];rfl
    ·rw [List.drop_eq_nil_of_le (by omega),dJ] at hr3
     cases hr3
     refine thn (T.done (cxC X x scope HP.objs.size s2 H2 fp) rfl rfl rfl hc.1 i pins s3 _ H3 _ I3 (stat fr3) st3 (w1 (by omega))) fun r s4 ⟨hrn,I4⟩=>?_
     subst hrn
     obtain ⟨m4,hn4,_⟩:=I4.loc
     have fC:H3 HP.objs.size=none:=I4.free
     have nC:∀ b u,H3 b=some u->b≠HP.objs.size:=fun b u e z=>by rw [z,fC] at e;cases e
     have U4:=I4.base
     refine hend HP.objs.size s2.heap.objs.size m4 s4 H3 hn4 (fun h' hs'=>?_) (I2.fpOk (by rw [hC];omega) fC) ?_
     ·have kp:∀ b o,b≠HP.objs.size->s4.heap.get? b=some o->h'.get? b=some o:=fun b o hb e=>hs'.extBut b o hb e
      refine Inv.call' I2 (ch:=fp) I4.os ⟨fun b o e n hb hx=>kp b o (ltC e) (U4.keep b o e n hb hx),fun b o e n hb hx=>?_,U4.free,fun b o e hx=>?_,U4.tups,U4.frzs,U4.tbls⟩ (fun b u e=>?_) I4.bare (fun b hb=>⟨(f2 b hb).2.2.2.1,(f2 b hb).2.1,(f2 b hb).2.2.2.2.1,(f2 b hb).2.2.2.2.2⟩)
      ·obtain ⟨sl,q⟩:=U4.slot b o e n hb hx
       exact ⟨sl,kp b _ (ltC e) q⟩
      ·obtain ⟨o',q⟩:=U4.there b o e hx
       exact ⟨o',kp b _ (ltC e) q⟩
      ·refine (I4.hok b u e).stay (fun c v hc q=>kp c v ?_ q) (fun _ q=>q) fun _ _ q=>q
       rcases hc with z | z
       ·rw [z];exact nC b u e
       ·exact nC c _ z
     ·refine ou2 Hi3 H3 e3 _ ⟨HD,hiD3,ys,hD3,?_⟩
      rw [hes3,List.append_nil]
      exact rd3
  rw [Ye] at dX
  exact codeAny_compStart_list (dX _ rfl) (T.self _ 0 _ _ _ tn1 (dX _ rfl))
theorem zFc (hc:X.calm=true/\TB X.K X.mg G.Bi G.B) (hr:Room k X.A) (Bk:BlkOk X x scope) (hN:X.N.Nodup) (h0:("" : Str)∉X.N) (hx0:x≠("" : Str)) (hi:PId X G (.Name x px) iter it)
  (hb:∀ (C:Addr) (s₂:Shared) (H₂:Hp) (fp:List Addr) (G':Gx),Good (cxC X x scope C s₂ H₂ fp) G' k->PTs (cxC X x scope C s₂ H₂ fp) G' ifs t/\PEd (cxC X x scope C s₂ H₂ fp) G' elt f)
  (hs:∀ x,foldedSetIterable iter X.env x=pure x:=by intro _;rfl):PEf X G (.ListComp elt [⟨.Name x px,iter,ifs,0⟩] scope pos) (rB it t f):=by
 intro pins s σ H Q I w
 obtain ⟨ρ,Hi,R,ou⟩:=w
 rw [eval_ListComp]
 refine zBC hc hr Bk hN h0 hx0 hi hb hs (use:=none) (Qa:=fun a H'=>Q (.ref a) H') I R ou fun C A m s4 H3 hn hI _ q=>?_
 exact ⟨m,hn,fun h' hs'=>⟨.ref A,H3,hI h' hs',rfl,q⟩⟩
def PC (X:Cx) (e:Expr) (t:TE):Prop:=∀ (pins:List (Addr×Obj)) (s:Shared) (σ:St) (H:Hp) (Q:VK),Inv X pins σ H s->t σ H Q->∀ (u:Value->Sem Unit) (Q':Unit->Shared->Prop),
 (∀ (C:Addr) (m:Str->Option Value) (s4:Shared) (v:V) (w:Value) (H3:Hp),s4.heap.Ns C m->(∀ h',Heap.SameBut C s4.heap h'->Inv X pins σ H3 { s4 with heap:=h' })->jR X pins H3 C->cD v w->Q v H3->
  wpAny (model X.prog X.w) X.A (u w) (fun _ s''=>∃ m,s''.heap.Ns C m/\∀ h',Heap.SameBut C s''.heap h'->Q' () { s'' with heap:=h' }) X.xe s4)->wpAny (model X.prog X.w) X.A (evalThenUse e X.env u) Q' X.xe s
theorem PC.wk {X:Cx} {e:Expr} {t t':TE} (h:PC X e t) (w:∀ σ H Q,t' σ H Q->t σ H Q):PC X e t':=fun pins s σ H Q I q=>h pins s σ H Q I (w σ H Q q)
@[irreducible] def PCd (X:Cx) (G:Gx) (e:Expr) (f:Ev):Prop:=PC X e (tD X G f)
unseal PCd
@[irreducible] def PCf (X:Cx) (G:Gx) (e:Expr) (f:Fv):Prop:=PC X e (tF X G f)
unseal PCf
end
end L3
namespace L3
open PySem PySem.Spec PyProof.Rows L2
unseal PEd PEf PTd PWd PAd PSd cI POd PGd eA PId PSx eN PTs PCd PCf
def zHS (sc:Scope) (N:List Str) (x:Str) (scope:Scope):Bool:=
 scope.names.all (fun y=>y.2 != .cell) && scope.names.lookup x==some .local && scope.names.all (fun y=>y.2 != .local || scope.names.lookup y.1==some .local)
  && scope.names.all (fun p=>p.2 != .free || (sc.names.lookup p.1==some .cell || sc.names.lookup p.1==some .free)) && N.all (fun y=>y==x || scope.names.lookup y != some .local) && (scope.names.lookup ("" : Str)).isNone && !N.contains ("" : Str) && x != ("" : Str)
section
variable {X:Cx} {G:Gx} {elt iter:Expr} {x:Str} {px pos:Pos} {ifs:List Expr} {scope sc:Scope} {it:Fv} {t:Tv} {f:Ev} {k:Nat} {N:List Str}
theorem zDm (hk:scope.kind=.function) (hsc:X.env.scope=sc) (hN:X.N=N) (h:zHS sc N x scope=true):BlkOk X x scope/\("" : Str)∉X.N/\x≠("" : Str):=by
 unfold zHS at h
 simp only [Bool.and_eq_true] at h
 obtain ⟨⟨⟨⟨⟨⟨⟨h1,h2⟩,h3⟩,h4⟩,h5⟩,h6⟩,h7⟩,h8⟩:=h
 subst hN hsc
 refine ⟨⟨hk,fun y hy e=>?_,beq_iff_eq.mp h2,fun y hy e=>?_,fun p hp e=>?_,fun y hy hne e=>?_,?_⟩,fun z=>?_,fun z=>?_⟩
 ·have:=List.all_eq_true.mp h1 y hy
  rw [e] at this;cases this
 ·have:=List.all_eq_true.mp h3 y hy
  rw [e] at this
  simpa using this
 ·have:=List.all_eq_true.mp h4 p hp
  rw [e] at this
  have q:X.env.scope.names.lookup p.1=some .cell∨X.env.scope.names.lookup p.1=some .free:=by simpa using this
  exact q
 ·have:=List.all_eq_true.mp h5 y hy
  rw [e] at this
  simp [hne] at this
 ·simpa using h6
 ·have:X.N.contains ("" : Str)=true:=by simpa using z
  rw [this] at h7;cases h7
 ·rw [z] at h8;simp at h8
theorem wV (W:Good X G k) (hnd:N.Nodup) (hk:scope.kind=.function) (hsc:X.env.scope=sc) (hN:X.N=N) (h:zHS sc N x scope=true) (hi:PId X G (.Name x px) iter it)
  (hb:∀ (C:Addr) (s₂:Shared) (H₂:Hp) (fp:List Addr) (G':Gx),Good (cxC X x scope C s₂ H₂ fp) G' k->PTs (cxC X x scope C s₂ H₂ fp) G' ifs t/\PEd (cxC X x scope C s₂ H₂ fp) G' elt f)
  (hs:∀ x,foldedSetIterable iter X.env x=pure x:=by intro _;rfl):PEf X G (.ListComp elt [⟨.Name x px,iter,ifs,0⟩] scope pos) (rB it t f):=by
 obtain ⟨b,h0,hx⟩:=zDm hk hsc hN h
 exact zFc ⟨W.calm,W.tb⟩ W.room b (hN ▸ hnd) h0 hx hi hb hs
end
end L3
namespace L3
open PySem PySem.Spec PyProof.Rows L2
unseal PEd PEf PTd PWd PAd PSd cI POd PGd eA PId PSx eN PTs PCd PCf
section
variable {X:Cx} {G:Gx} {a b:Expr} {pos:Pos} {f:Fv} {g:Ev}
theorem zDx:pB X (fun xs H Q=>(∃ i,xs=[.int i]/\Q (.int i) H)∨∃ k,xs=[.bl k]/\Q (.int (if k then 1 else 0)) H) zGb:=⟨fun a c z=>(by
  unfold zGb at z;split at z<;>cases z),fun Hi H vs ds d Q s r z q=>by
  unfold zGb at z
  split at z
  ·cases z
   obtain ⟨v,rfl,h⟩:=r.one
   exact .inl ⟨_,by rw [h.intI],q _ Hi H (Ext.refl s) (.int _)⟩
  ·cases z
   obtain ⟨v,rfl,h⟩:=r.one
   exact .inr ⟨_,by rw [h.blI],q _ Hi H (Ext.refl s) (.int _)⟩
  ·cases z⟩
theorem IsDs.rep {K:PySem.W.Frag} {H:Hp} {xs:List V} {ds:List D} (h:IsDs K H xs ds):∀ n:Nat,IsDs K H (List.replicate n xs).flatten (List.replicate n ds).flatten
 | 0=>.nil
 | n+1=>by
  rw [List.replicate_succ,List.replicate_succ,List.flatten_cons,List.flatten_cons]
  exact h.append (IsDs.rep h n)
theorem zBi (ha:PEf X G a f) (hb:PEd X G b g):PEf X G (.BinOp a .Mult b pos) (zFF f g):=PE.wk (zBz zGj ha hb) fun σ H Q q=>by
 obtain ⟨ρ,Hi,R,ou⟩:=q
 refine ⟨ρ,Hi,R,(Out.bind ou).imp fun ds Hi1 H1 e1 o1 l nl=>?_⟩
 refine ⟨ρ,Hi1,R.grow e1,(Out.bind o1).imp fun d Hi2 H2 e2 o2 v rv=>?_⟩
 cases d<;>first | exact o2.elim | skip
 rename_i k
 obtain ⟨n1,n2,xs,n3,n4⟩:=nl
 have o2':Out G Hi2 H2 (if 0<=k/\k < 2^62/\ds.length * k.toNat<=16777216 then Res.ok (List.replicate k.toNat ds).flatten else .no) _:=o2
 by_cases hz:0<=k/\k < 2^62/\ds.length * k.toNat<=16777216
 ·rw [if_pos hz] at o2'
  refine ⟨l,k,xs,rfl,rv.intI,e2.h.at n3,by omega,by omega,by rw [n4.length];exact hz.2.2,fun p hp=>?_⟩
  exact o2' _ _ (Ext.newF e2.s hp) p ⟨(e1.h.trans e2.h).none hp,e2.s.none hp,_,aH,(n4.mono e2.i).rep _⟩
 ·rw [if_neg hz] at o2';exact o2'.elim
end
section
variable {es r:List Expr} {a b f:Expr} {k:Nat} {p:Pos} {x:Str} {c:Const} {env:Env}
theorem mO:starEach (.List es p::r) env=(false,eval (.List es p) env)::starEach r env:=rfl
theorem aX {o:Operator}:starEach (.BinOp a o b p::r) env=(false,eval (.BinOp a o b p) env)::starEach r env:=rfl
theorem dW:starEach (.Subscript a b p::r) env=(false,eval (.Subscript a b p) env)::starEach r env:=rfl
theorem aF:starEach (.Name x p::r) env=(false,eval (.Name x p) env)::starEach r env:=rfl
theorem aT:starEach (.Constant c k p::r) env=(false,eval (.Constant c k p) env)::starEach r env:=rfl
theorem aV {ks:List Keyword}:starEach (.Call f es ks p::r) env=(false,eval (.Call f es ks p) env)::starEach r env:=rfl
end
end L3
namespace L3
open PySem PySem.Spec PyProof.Rows L2
unseal PEd PEf PTd PWd PAd PSd cI POd PGd eA PId PSx eN PTs PCd PCf
section
variable {X:Cx} {G:Gx} {e st:Expr} {te tk:TE} {lo hi:Option Expr} {tl th:TO} {pos p2:Pos} {f g:Ev} {l h:Ov}
end
end L3
set_option maxRecDepth 100000
namespace L3
open PySem PySem.Spec PyProof.Rows L2
section
variable {prog:Program} {w:World} {A:Around} {E:Value->Shared->Prop} {s:Shared}
end
section
unseal PEd PEf PTd PWd PAd PSd cI POd PGd eA PId PSx eN PTs PCd PCf
variable {X:Cx} {G:Gx} {fs:Fv} {f:Ev}
end
end L3
namespace L3
open PySem PySem.Spec PyProof.Rows L2
unseal PEd PEf PTd PWd PAd PSd cI POd PGd eA PId PSx eN PTs PCd PCf
section
variable {X:Cx} {G:Gx}
def zIX (K:PySem.W.Frag):List V->Hp->VK->Prop:=fun xs H Q=>∃ (a:Addr) (ns:List Int),xs=[.ref a]/\(SqL K H a (ns.map V.int)∨SqT K H a (ns.map V.int))/\Q (.int ns.sum) H
theorem jQ (ns:List Int):∀ j,preSum (fun i=>ns.getD i 0) j=(ns.take j).sum
 | 0=>by rw [List.take_zero];rfl
 | j+1=>by
  rw [preSum,jQ ns j,List.take_succ]
  rw [List.getD_eq_getElem?_getD]
  cases ns[j]? with
  | none=>simp
  | some x=>simp
theorem iZ {ns:List Int} {its:List Value} (r:cO (ns.map V.int) its) {i:Nat} {v:Value} (h:its[i]?=some v):∃ t,v=.int (ns.getD i 0) t:=by
 have hl:=r.length
 rw [List.length_map] at hl
 have hi:=(List.getElem?_eq_some_iff.mp h).1
 have hx:(ns.map V.int)[i]?=some (.int (ns.getD i 0)):=by
  rw [List.getElem?_map,List.getD_eq_getElem?_getD,List.getElem?_eq_getElem (by omega)]
  rfl
 obtain ⟨u,hu,ru⟩:=r.get hx
 rw [h] at hu
 cases hu
 exact ru
theorem kP (hc:X.calm=true):iN X (.builtin "sum") (zIX X.K):=by
 intro pins s σ H xs us Q I r h
 obtain ⟨a,ns,rfl,hq,q⟩:=h
 obtain ⟨u,rfl,ru⟩:=r.one
 cases ru
 have hh:=I.ok.hd hc
 rcases hq with hq | hq
 ·obtain ⟨its,rv,p,hz⟩:=I.list hq
  have hlt:a < s.heap.objs.size:=by obtain ⟨_,e,_⟩:=p.isList;exact Heap.lt_size e
  have hl:=rv.length
  rw [List.length_map] at hl
  refine call_sum_walkG (wpAny_pyIter_list p.isList ?_)
  refine ⟨s.heap.objs.size,_,_,_,_,_,fun i=>ns.getD i 0,rfl,Walks.list (A:=X.A.in1) hh s.heap.objs.size a (Nat.ne_of_lt hlt) its.toArray,⟨⟨_,Heap.get?_push_size _ rfl,rfl,rfl⟩,p.isList.push _⟩,fun b hb=>?_,fun i v hv=>iZ rv (by simpa using hv),fun h' tk t' hk=>?_⟩
  ·show b < (s.heap.push _).objs.size
   rw [Heap.size_push]
   rcases List.mem_cons.mp hb with rfl | hb
   ·exact Nat.lt_succ_self _
   ·rcases List.mem_cons.mp hb with rfl | hb
    ·exact Nat.lt_succ_of_lt hlt
    ·cases hb
  ·refine ⟨.int ns.sum,H,I.kept (t':=tk) fun b o e=>hk b o (fun z=>?_) (Heap.get?_push_of_some _ e),⟨t',?_⟩,q⟩
   ·have z':b=s.heap.objs.size:=by simpa using z
    have l:=Heap.lt_size e
    rw [z'] at l
    exact Nat.lt_irrefl _ l
   ·rw [List.size_toArray,<-hl,jQ,List.take_length]
 ·obtain ⟨its,rv,p,hz⟩:=I.tuple hq
  have p':s.heap.IsTuple a its.toArray:=p
  have hlt:a < s.heap.objs.size:=by obtain ⟨_,e,_⟩:=p';exact Heap.lt_size e
  have hl:=rv.length
  rw [List.length_map] at hl
  refine call_sum_walkG (wpAny_pyIter_tuple p' ?_)
  refine ⟨s.heap.objs.size,_,_,_,_,_,fun i=>ns.getD i 0,rfl,Walks.tuple (A:=X.A.in1) hh s.heap.objs.size a (Nat.ne_of_lt hlt) its.toArray,⟨⟨_,Heap.get?_push_size _ rfl,rfl,rfl⟩,p'.push _⟩,fun b hb=>?_,fun i v hv=>iZ rv (by simpa using hv),fun h' tk t' hk=>?_⟩
  ·show b < (s.heap.push _).objs.size
   rw [Heap.size_push]
   rcases List.mem_cons.mp hb with rfl | hb
   ·exact Nat.lt_succ_self _
   ·rcases List.mem_cons.mp hb with rfl | hb
    ·exact Nat.lt_succ_of_lt hlt
    ·cases hb
  ·refine ⟨.int ns.sum,H,I.kept (t':=tk) fun b o e=>hk b o (fun z=>?_) (Heap.get?_push_of_some _ e),⟨t',?_⟩,q⟩
   ·have z':b=s.heap.objs.size:=by simpa using z
    have l:=Heap.lt_size e
    rw [z'] at l
    exact Nat.lt_irrefl _ l
   ·rw [List.size_toArray,<-hl,jQ,List.take_length]
theorem eO {K:PySem.W.Frag} {H:Hp}:∀ {xs:List V} {ds:List D} {ns:List Int},IsDs K H xs ds->fQ ds=some ns->xs=ns.map V.int
 | _,_,ns,.nil,h=>by cases h;rfl
 | _,_,ns,.cons (d:=d) (ds:=ds) r rs,h=>by
  cases d with
  | int i=>
   rw [fQ] at h
   cases z:fQ ds with
   | none=>rw [z] at h;cases h
   | some ms=>
    rw [z] at h
    cases h
    rw [r.intI,eO rs z]
    rfl
  | _=>cases h
theorem tM:pB X (zIX X.K) rY:=⟨fun a c z=>(by
  unfold rY at z
  split at z
  ·split at z<;>cases z
  ·split at z<;>cases z
  ·cases z),fun Hi H vs ds d Q s r z q=>by
  unfold rY at z
  split at z
  ·split at z
   ·rename_i ns hns
    cases z
    obtain ⟨v,rfl,h⟩:=r.one
    obtain ⟨a,xs,rfl,h1,h2⟩:=h.lstI
    have e:=eO h2 hns
    subst e
    exact ⟨a,ns,rfl,.inl (bC s h1),q _ Hi H (Ext.refl s) (.int _)⟩
   ·cases z
  ·split at z
   ·rename_i ns hns
    cases z
    obtain ⟨v,rfl,h⟩:=r.one
    obtain ⟨a,xs,rfl,h1,h2⟩:=h.tupI
    have e:=eO h2 hns
    subst e
    exact ⟨a,ns,rfl,.inr (bY s h1),q _ Hi H (Ext.refl s) (.int _)⟩
   ·cases z
  ·cases z⟩
theorem fR:bootBuiltins "sum" = some (.builtin "sum"):=by first | rfl | decide +kernel
end
end L3
namespace L3
open PySem PySem.Spec PyProof.Rows L2
unseal PEd PEf PTd PWd PAd PSd cI POd PGd eA PId PSx eN PTs PCd PCf
section
variable {prog:Program} {w:World} {A:Around} {E:Value->Shared->Prop} {s:Shared}
end
section
variable {X:Cx} {G:Gx} {es:List Expr} {pos:Pos}
end
theorem ln0 {α:Type} {us:List α} (h:us.length=0):us=[]:=List.eq_nil_of_length_eq_zero h
theorem ln1 {α:Type} {us:List α} (h:us.length=1):∃ a0:α,us=[a0]:=by
 cases us with
 | nil=>cases h
 | cons a r=>
  cases ln0 (Nat.succ.inj h)
  exact ⟨a,rfl⟩
theorem ln2 {α:Type} {us:List α} (h:us.length=2):∃ a0 a1:α,us=[a0,a1]:=by
 cases us with
 | nil=>cases h
 | cons a r=>
  obtain ⟨a1,rfl⟩:=ln1 (Nat.succ.inj h)
  exact ⟨a,a1,rfl⟩
theorem ln3 {α:Type} {us:List α} (h:us.length=3):∃ a0 a1 a2:α,us=[a0,a1,a2]:=by
 cases us with
 | nil=>cases h
 | cons a r=>
  obtain ⟨a1,a2,rfl⟩:=ln2 (Nat.succ.inj h)
  exact ⟨a,a1,a2,rfl⟩
theorem ln4 {α:Type} {us:List α} (h:us.length=4):∃ a0 a1 a2 a3:α,us=[a0,a1,a2,a3]:=by
 cases us with
 | nil=>cases h
 | cons a r=>
  obtain ⟨a1,a2,a3,rfl⟩:=ln3 (Nat.succ.inj h)
  exact ⟨a,a1,a2,a3,rfl⟩
theorem ln5 {α:Type} {us:List α} (h:us.length=5):∃ a0 a1 a2 a3 a4:α,us=[a0,a1,a2,a3,a4]:=by
 cases us with
 | nil=>cases h
 | cons a r=>
  obtain ⟨a1,a2,a3,a4,rfl⟩:=ln4 (Nat.succ.inj h)
  exact ⟨a,a1,a2,a3,a4,rfl⟩
end L3
namespace L3
open PySem PySem.Spec PyProof.Rows L2
unseal PEd PEf PTd PWd PAd PSd cI POd PGd eA PId PSx eN PTs PCd PCf
section
variable {X:Cx} {G:Gx} {a b c e:Expr} {pos p2:Pos} {f g h:Ev} {fs:Fv} {lo hi:Option Expr} {l u:Ov}
theorem iR {K:PySem.W.Frag} {H:Hp}:∀ {xs:List V} {ds:List D} {bs:List Bool},IsDs K H xs ds->eY ds=some bs->xs=bs.map V.bl
 | _,_,_,.nil,h=>by cases h;rfl
 | _,_,_,.cons (d:=d) (ds:=ds) r rs,h=>by
  cases d with
  | bl i=>
   rw [eY] at h
   cases z:eY ds with
   | none=>rw [z] at h;cases h
   | some ms=>
    rw [z] at h
    cases h
    rw [r.blI,iR rs z]
    rfl
  | _=>cases h
end
end L3
namespace L3
open PySem PySem.Spec PyProof.Rows L2
unseal PEd PEf PTd PWd PAd PSd cI POd PGd eA PId PSx eN PTs PCd PCf
section
variable {X:Cx} {G:Gx} {a b c e:Expr} {pos p2 p:Pos} {f g h:Ev} {fs:Fv} {x:Str}
theorem zID {bl:List Stmt}:cI X G bl sNo:=fun pins s σ H E I q=>by
 obtain ⟨ρ,Hi,R,ou⟩:=q
 exact ou.elim
def zCv (T:List (Str×Str)):List (Str×KTD.Dat):=T.map fun q=>(q.1,.flat (.str q.2))
structure IsTab (K:PySem.W.Frag) (mg:Str->Option Value) (x:Str) (T:List (Str×Str)) (a:Addr):Prop where
 mg:mg x=some (.ref a)
 tab:∀ h:Heap,K.In h->KTD.TextTab h a (zCv T)
theorem yY (k:Str):∀ T:List (Str×Str),KTD.datumAt k (zCv T)=(T.lookup k).map fun y=>.flat (.str y)
 | []=>rfl
 | (x,y)::r=>by
  show (if decide (k=x)=true then some (KTD.Dat.flat (.str y)) else KTD.datumAt k (zCv r))=_
  rw [List.lookup_cons]
  by_cases hx:k=x
  ·rw [if_pos (decide_eq_true hx),show (k==x)=true from beq_iff_eq.mpr hx];rfl
  ·rw [if_neg (by simp [hx]),show (k==x)=false from beq_eq_false_iff_ne.mpr hx];exact yY k r
theorem zBJ (k:Str) (T:List (Str×Str)):KTD.inKeys k (zCv T)=(T.lookup k).isSome:=by
 rw [<-KTD.isSome_datumAt,yY,Option.isSome_map]
theorem zDq {T:List (Str×Str)} {ad:Addr} (t:IsTab X.K X.mg x T ad) (hg:Gl X x) (hd:(x==("__debug__" : Str))=false:=by decide):PE X (.Name x p) (tC (.ref ad)):=uV hg t.mg rfl hd
theorem zAm {T:List (Str×Str)} {ad:Addr} (t:IsTab X.K X.mg x T ad):OpR X (compareOp .NotIn) (fun v y H Q=>∃ k,v=.str k/\y=.ref ad/\Q (.bl (!(T.lookup k).isSome)) H):=by
 intro pins s σ H v y u w Q I rx ry h
 obtain ⟨k,rfl,rfl,q⟩:=h
 obtain ⟨tk,rfl⟩:=rx
 cases ry
 refine KTD.notin_text ⟨t.tab s.heap I.kIn,fun _ _ e=>e⟩ ?_
 rw [zBJ]
 exact ⟨.bl _,H,I.tok _,rfl,q⟩
theorem sT {h₀:Heap} {k:Str} {P:Value->Prop}:∀ {T:List (Str×Str)},(∀ z t,T.lookup k=some z->P (.str z t))->KTD.EachL h₀ k P (zCv T)
 | [],_=>trivial
 | [(x,y)],hP=>fun hk t=>hP y t (by rw [List.lookup_cons,show (k==x)=true from beq_iff_eq.mpr hk])
 | (x,y)::q::r,hP=>by
  show if decide (k=x)=true then KTD.Opened h₀ P (.flat (.str y)) else KTD.EachL h₀ k P (zCv (q::r))
  by_cases hk:k=x
  ·rw [if_pos (decide_eq_true hk)]
   exact fun t=>hP y t (by rw [List.lookup_cons,show (k==x)=true from beq_iff_eq.mpr hk])
  ·rw [if_neg (by simp [hk])]
   exact sT fun z t hz=>hP z t (by rw [List.lookup_cons,show (k==x)=false from beq_eq_false_iff_ne.mpr hk];exact hz)
theorem zG (T:List (Str×Str)):((zCv T).all fun q=>KTD.plain q.2)=true:=by
 unfold zCv
 rw [List.all_map]
 exact List.all_eq_true.mpr fun _ _=>rfl
theorem zGc {T:List (Str×Str)} {ad:Addr} (t:IsTab X.K X.mg x T ad):IxR X (fun v y H Q=>∃ k z,v=.ref ad/\y=.str k/\T.lookup k=some z/\Q (.str z) H):=by
 intro value slice pins s σ H v y u w Q I rx ry h hs
 obtain ⟨k,z,rfl,rfl,hk,q⟩:=h
 cases rx
 obtain ⟨tk,rfl⟩:=ry
 refine KTD.item_textA ⟨t.tab s.heap I.kIn,fun _ _ e=>e⟩ (zG T) (by rw [zBJ,hk];rfl) ?_ hs
 refine sT fun z' t' hz=>?_
 rw [hk] at hz
 cases hz
 exact ⟨.str _,H,I.tok _,⟨_,rfl⟩,q⟩
theorem unT {o:D->Res D} {r:R2} {y:V} (hr:∀ (Hi H:Hp) (v:V) (d:D) (Q:VK),IsD X.K Hi v d->Same Hi H->(∃ d',o d=.ok d'/\(∀ w Hi' H',Ext Hi H Hi' H'->IsD X.K Hi' w d'->Q w H'))->r v y H Q)
  (he:∀ d c,o d≠.err c):∀ σ H Q,tD X G (eUn o f) σ H Q->tOp r (tD X G f) (tC y) σ H Q:=fun σ H Q q=>by
 obtain ⟨ρ,Hi,R,ou⟩:=q
 refine rQ R ou fun v d Hi1 H1 e1 R1 r1 o1=>?_
 cases z:o d with
 | no=>rw [z] at o1;exact o1.elim
 | err c=>exact absurd z (he d c)
 | ok d'=>rw [z] at o1;exact hr Hi1 H1 v d Q r1 R1.s ⟨d',z,fun w Hi' H' e1 r1=>o1 Hi' H' e1 w r1⟩
theorem zHt {T:List (Str×Str)} {ad:Addr}:∀ σ H Q,tD X G (eUn (lC T) f) σ H Q->tOp (fun v y H Q=>∃ k,v=.str k/\y=.ref ad/\Q (.bl (!(T.lookup k).isSome)) H) (tD X G f) (tC (.ref ad)) σ H Q:=
 unT (fun Hi H v d Q r s h=>by
  obtain ⟨d',z,q⟩:=h
  unfold lC at z
  split at z
  ·cases z;exact ⟨_,r.strI,rfl,q _ Hi H (Ext.refl s) (.bl _)⟩
  ·cases z) fun d c z=>by unfold lC at z;split at z<;>cases z
theorem zHo {op:CmpOp} {o:D->Res D} {r:R2} {y:V} (hp:PT X (.Compare a [op] [b] pos) (zHx (tOp r (tD X G f) (tC y)))) (hu:∀ σ H Q,tD X G (eUn o f) σ H Q->tOp r (tD X G f) (tC y) σ H Q):PTd X G (.Compare a [op] [b] pos) (dM (eUn o f)):=
 PT.wk hp fun σ H Q q=>by
  obtain ⟨ρ,Hi,R,ou⟩:=q
  refine hu σ H _ ⟨ρ,Hi,R,ou.bind.imp fun d Hi' H' e o v r=>?_⟩
  cases d with
  | bl c=>rw [r.blI];exact ⟨c,rfl,o.here e.s⟩
  | _=>exact o.elim
theorem zCk {T:List (Str×Str)} {ad:Addr} (t:IsTab X.K X.mg x T ad) (hg:Gl X x) (ha:PEd X G a f) (hm:behindInMarks .NotIn (.Name x p)=false) (hd:(x==("__debug__" : Str))=false:=by decide):PTd X G (.Compare a [.NotIn] [.Name x p] pos) (dM (eUn (lC T) f)):=
 zHo (zBe (zAm t) ha (zDq t hg hd) hm) zHt
theorem zDa {T:List (Str×Str)} {ad:Addr} (t:IsTab X.K X.mg x T ad) (hg:Gl X x) (hb:PEd X G b g) (hs:uI b) (hd:(x==("__debug__" : Str))=false:=by decide):PEd X G (.Subscript (.Name x p) b pos) (eUn (pI T) g):=
 PE.wk (xX (zGc t) (zDq t hg hd) hb hs) fun σ H Q q=>by
  obtain ⟨ρ,Hi,R,ou⟩:=q
  refine rQ R ou fun v d Hi1 H1 e1 R1 r1 o1=>?_
  cases d with
  | str k=>
   have o2:Out G Hi1 H1 (zGS (T.lookup k)) _:=o1
   cases z:T.lookup k with
   | none=>rw [z] at o2;exact o2.elim
   | some y=>rw [z] at o2;exact ⟨k,y,rfl,r1.strI,z,o2.here R1.s _ (.str _)⟩
  | _=>exact o1.elim
end
end L3
namespace L3
open PySem PySem.Spec PyProof.Rows L2
unseal PEd PEf PTd PWd PAd PSd cI POd PGd eA PId PSx eN PTs PCd PCf
section
variable {prog:Program} {w:World} {A:Around} {R:Result->Shared->Prop} {I:Addr} {fp wr:List Addr} {n:Nat} {P:Nat->Value->Prop} {St:Nat->Heap->Prop} {kw:List (Str×Value)}
end
section
variable {X:Cx} {G:Gx} {a c:Expr} {pos p kp:Pos} {f g:Ev}
theorem zAR (num:Nat->Int):∀ k,num (argBest (fun i j=>decide (num i > num j)) k)=rP (num 0) ((List.range k).map fun i=>num (i+1))
 | 0=>rfl
 | k+1=>by
  rw [List.range_succ,List.map_append]
  have app:∀ (l:List Int) (a b:Int),rP a (l++[b])=if b > rP a l then b else rP a l:=by
   intro l
   induction l with
   | nil=>intro a b;rfl
   | cons x r ih=>intro a b;rw [List.cons_append,rP,ih,rP]
  rw [List.map_singleton,app,<-zAR num k]
  show num (if decide (num (k+1) > num (argBest _ k))=true then k+1 else argBest _ k)=_
  by_cases h:num (k+1) > num (argBest (fun i j=>decide (num i > num j)) k)
  ·rw [if_pos (decide_eq_true h),if_pos h]
  ·rw [if_neg (by simp [h]),if_neg h]
theorem uE (m:Int) (ns:List Int):(m::ns).getD (argBest (fun i j=>decide ((m::ns).getD i 0 > (m::ns).getD j 0)) ns.length) 0=rP m ns:=by
 rw [zAR (fun i=>(m::ns).getD i 0) ns.length]
 show rP m _=_
 congr 1
 refine List.ext_getElem? fun i=>?_
 rw [List.getElem?_map]
 by_cases h:i < ns.length
 ·rw [List.getElem?_range h,List.getElem?_eq_getElem h]
  show some ((m::ns).getD (i+1) 0)=_
  rw [List.getD_cons_succ,List.getD_eq_getElem?_getD,List.getElem?_eq_getElem h];rfl
 ·rw [List.getElem?_eq_none (by rw [List.length_range];omega),List.getElem?_eq_none (by omega)];rfl
def zGu (K:PySem.W.Frag):List V->Hp->VK->Prop:=fun xs H Q=>∃ (a:Addr) (m:Int) (ns:List Int),xs=[.ref a]/\SqL K H a ((m::ns).map V.int)/\Q (.int (rP m ns)) H
theorem zAH (hc:X.calm=true):iN X (.builtin "max") (zGu X.K):=by
 intro pins s σ H xs us Q I r h
 obtain ⟨a,m,ns,rfl,hq,q⟩:=h
 obtain ⟨u,rfl,ru⟩:=pD r
 cases ru
 have hh:=I.ok.hd hc
 obtain ⟨its,rv,p,hz⟩:=I.list hq
 have hlt:a < s.heap.objs.size:=by obtain ⟨_,e,_⟩:=p.isList;exact Heap.lt_size e
 have hl:=rv.length
 rw [List.length_map,List.length_cons] at hl
 refine call_max_walk (wpAny_pyIter_list p.isList ?_)
 refine ⟨s.heap.objs.size,_,_,_,_,_,fun i j=>decide ((m::ns).getD i 0 > (m::ns).getD j 0),rfl,Walks.list (A:=X.A.in1) hh s.heap.objs.size a (Nat.ne_of_lt hlt) its.toArray,⟨⟨_,Heap.get?_push_size _ rfl,rfl,rfl⟩,p.isList.push _⟩,fun b hb=>?_,by rw [List.size_toArray];omega,CmpOf.ints_gt _ fun i v hv=>iZ rv (by simpa using hv),fun v h' tk hv hk=>?_⟩
 ·show b < (s.heap.push _).objs.size
  rw [Heap.size_push]
  rcases List.mem_cons.mp hb with rfl | hb
  ·exact Nat.lt_succ_self _
  ·rcases List.mem_cons.mp hb with rfl | hb
   ·exact Nat.lt_succ_of_lt hlt
   ·cases hb
 ·obtain ⟨t,rfl⟩:=iZ rv (i:=argBest (fun i j=>decide ((m::ns).getD i 0 > (m::ns).getD j 0)) (its.toArray.size - 1)) (by simpa using hv)
  refine ⟨.int (rP m ns),H,I.kept (t':=tk) fun b o e=>hk b o (fun z=>?_) (Heap.get?_push_of_some _ e),⟨t,?_⟩,q⟩
  ·have z':b=s.heap.objs.size:=by simpa using z
   have l:=Heap.lt_size e
   rw [z'] at l
   exact Nat.lt_irrefl _ l
  ·rw [List.size_toArray,<-hl,Nat.add_sub_cancel,uE]
theorem zFf:pB X (zGu X.K) zBw:=⟨fun a c z=>(by
  unfold zBw at z
  split at z
  ·split at z<;>cases z
  ·cases z),fun Hi H vs ds d Q s r z q=>by
  unfold zBw at z
  split at z
  ·split at z
   ·rename_i m ns hns
    cases z
    obtain ⟨v,rfl,h⟩:=r.one
    obtain ⟨a,xs,rfl,h1,h2⟩:=h.lstI
    have e:=eO h2 hns
    subst e
    exact ⟨a,m,ns,rfl,bC s h1,q _ Hi H (Ext.refl s) (.int _)⟩
   ·cases z
  ·cases z⟩
end
end L3
namespace L3
open PySem PySem.Spec PyProof.Rows L2
unseal PEd PEf PTd PWd PAd PSd cI POd PGd eA PId PSx eN PTs PCd PCf
section
variable {X:Cx} {G:Gx} {e:Expr} {pos:Pos} {f:Ev}
end
end L3
namespace L2
open PySem PySem.Spec PyProof.Rows
section
variable {κ:Type} [DecidableEq κ]
end
abbrev KT (H:Hp):List (List Key×V)->List (List Key×Addr×Value)->Prop:=Paired fun p q=>p.1=q.1/\H q.2.1=some (.tup (p.1.map kV))/\cD p.2 q.2.2
section
variable {P:Program} {w:World} {H:Hp} {h:Heap} {a:Addr}
end
section
variable {X:Cx} {pins:List (Addr×Obj)} {σ:St} {H:Hp} {s:Shared} {a:Addr} {y v:V} {u r:Value} {o:Option V} {A:Around} {E:Value->Shared->Prop}
end
section
variable {X:Cx} {pins:List (Addr×Obj)} {σ:St} {H:Hp} {s:Shared} {a:Addr} {kvs:List (Key×V)} {k:Key} {u:Value} {A:Around} {E:Value->Shared->Prop}
end
section
variable {X:Cx} {o i e value:Expr} {pos pos' tpos:Pos} {td ty tv:TE}
end
section
variable {X:Cx} {pos:Pos}
end
end L2
namespace L3
open PySem PySem.Spec PyProof.Rows L2
unseal PEd PEf PTd PWd PAd PSd cI POd PGd eA PId PSx eN PTs PCd PCf
section
variable {X:Cx} {G:Gx} {a b c e:Expr} {pos p2 p:Pos} {f g h:Ev} {fs:Fv} {x:Str}
end
end L3
namespace L3
open PySem PySem.Spec PyProof.Rows L2
def itN (k:Bool):String:=if k then "list_iterator" else "tuple_iterator"
def vP (k:Bool) (h:Heap) (it l:Addr) (i:Nat):Prop:=if k then h.IsListIter it l i else h.IsTupleIter it l i
def oP (k:Bool) (h:Heap) (l:Addr) (xs:Array Value):Prop:=if k then h.IsList l xs else h.IsTuple l xs
theorem vP.get {k:Bool} {h:Heap} {it l:Addr} {i:Nat} (x:vP k h it l i):∃ o,h.get? it=some o/\o.cls=.type (itN k)/\o.data=.fields #[.ref l,.int i 0]:=by
 cases k<;>(obtain ⟨o,a,b,c⟩:=x;exact ⟨o,a,b,c⟩)
theorem vP.mk {k:Bool} {h:Heap} {it l:Addr} {i:Nat} {o:Obj} (a:h.get? it=some o) (b:o.cls=.type (itN k)) (c:o.data=.fields #[.ref l,.int i 0]):vP k h it l i:=by
 cases k<;>exact ⟨o,a,b,c⟩
theorem vP.go {k:Bool} {h h':Heap} {it l:Addr} {i:Nat} (x:vP k h it l i) (g:∀ o,h.get? it=some o->h'.get? it=some o):vP k h' it l i:=by
 obtain ⟨o,a,b,c⟩:=x.get
 exact .mk (g o a) b c
theorem oP.go {k:Bool} {h h':Heap} {l:Addr} {xs:Array Value} (x:oP k h l xs) (g:∀ o,h.get? l=some o->h'.get? l=some o):oP k h' l xs:=by
 cases k<;>(obtain ⟨o,a,b⟩:=x;exact ⟨o,g o a,b⟩)
section
variable {prog:Program} {w:World} {A:Around} {E:Value->Shared->Prop} {s:Shared}
theorem zAs {k:Bool} {l:Addr} {xs:Array Value} {Q:Value->Shared->Prop} (hl:oP k s.heap l xs) (hQ:Q (.ref s.heap.objs.size) { s with heap:=s.heap.push { cls:=.type (itN k),data:=.fields #[.ref l,.int 0 0] } }):
  wpAny (model prog w) A (pyIter (.ref l)) Q E s:=by
 cases k
 ·exact wpAny_pyIter_tuple hl hQ
 ·exact wpAny_pyIter_list hl hQ
theorem nxT {it t:Addr} {i:Nat} {items:Array Value} {Q:Value->Shared->Prop} (hh:A.handled=none∨(items[i]?).isSome=true) (x:s.heap.IsTupleIter it t i) (y:s.heap.IsTuple t items)
  (go:∀ v,items[i]?=some v->∀ h2,h2.IsTupleIter it t (i+1)->Heap.SameBut it s.heap h2->Q v { s with heap:=h2 })
  (stop:items[i]?=none->∀ h2 e,Heap.ExtBut it s.heap h2->(∃ ob,h2.get? e=some ob/\ob.cls=.type "StopIteration")->E (.ref e) { s with heap:=h2 }):wpAny (model prog w) A (Builtin.SmallTypes.nextOf (.ref it)) Q E s:=by
 obtain ⟨oi,ei,ci,di⟩:=id x
 obtain ⟨ot,et,_,nt,dt⟩:=y
 have nn:¬ ((Value.ref t==Value.none)=true):=Bool.false_ne_true
 unfold Builtin.SmallTypes.nextOf
 refine wpAny_bind (wpAny_callSpecial?_slot (name:=Str.ofString "__next__") x.typeIs F.slot_tuple_iterator_next (wpAny_call_entry F.slot_tuple_iterator_next x.typeIs F.entry_tuple_iterator_next (show wpAny _ _ (field _ 0 >>= _) _ _ s from wpAny_bind (wpAny_field ei di (x:=.ref t) rfl ?_)) (F.args_tuple_iterator_next_1 _)))
 show wpAny _ _ (ite ((Value.ref t==Value.none)=true) _ _) _ _ s
 rw [if_neg nn]
 refine show wpAny _ _ (field _ 1 >>= _) _ _ s from wpAny_bind (wpAny_field ei di (x:=.int i 0) rfl (show wpAny _ _ (seqItems? _ >>= _) _ _ s from wpAny_bind (wpAny_seqItems et dt ?_)))
 have fr:∀ g:Array Value->Array Value,Heap.get? (s.heap.update it (Obj.mapFields g)) it=some (Obj.mapFields g oi):=fun g=>Heap.get?_update_self _ ei (Obj.isFreed_of_fields (Obj.data_mapFields di g))
 cases q:items[i]? with
 | some v=>
  simp only [Int.toNat_natCast,q]
  refine wpAny_bind (wpAny_setField ei di (by simp) (wpAny_pure ⟨v,rfl,wpAny_pure (go v q _ ⟨_,fr _,(Obj.cls_mapFields ..).trans ci,?_⟩ (Heap.SameBut.update ..))⟩))
  rw [Obj.data_mapFields di]
  simp [rawInt]
 | none=>
  have hh:A.handled=none:=hh.elim id fun z=>by rw [q] at z;cases z
  simp only [Int.toNat_natCast,q]
  refine wpAny_bind (wpAny_rule (wpAny_bind (wpAny_setField ei di (by simp) (show wpAny _ _ (newExc _ [] >>= _) _ _ _ from wpAny_bind ?_))))
  simp only [newExc,newTuple]
  refine wpAny_bind (wpAny_newObj_type (wpAny_bind (m:=firstArgMember _ _) (wpAny_of_eq (a:=Value.none) (by first | rfl | (simp only [firstArgMember];rfl)) (wpAny_newObj_type ?_ (by size_fits)))) (by size_fits))
  simp only [raiseNew]
  refine wpAny_bind (wpAny_handled ?_)
  rw [show A.in1.handled=none from hh]
  exact wpAny_bind (wpAny_pure (wpAny_throw (stop q _ _ (((Heap.SameBut.update ..).extBut.push _).push _) ⟨_,Heap.get?_push_size _ rfl,rfl⟩)))
theorem zAS {k:Bool} {it t:Addr} {i:Nat} {items:Array Value} {x:Value} {Q:Value->Shared->Prop} (hit:vP k s.heap it t i) (ht:oP k s.heap t items) (hx:items[i]?=some x)
  (hQ:∀ h',vP k h' it t (i+1)->Heap.SameBut it s.heap h'->Q x { s with heap:=h' }):wpAny (model prog w) A (Builtin.SmallTypes.nextOf (.ref it)) Q E s:=by
 cases k
 ·exact nxT (.inr (by rw [hx];rfl)) hit ht (fun v q h2 g1 g2=>by rw [hx] at q;cases q;exact hQ h2 g1 g2) fun q=>by rw [hx] at q;cases q
 ·exact wpAny_nextOf_list_item hit ht hx hQ
theorem zDb {k:Bool} {it t:Addr} {i:Nat} {items:Array Value} {Q:Value->Shared->Prop} (hh:A.handled=none) (hit:vP k s.heap it t i) (ht:oP k s.heap t items) (hx:items[i]?=none)
  (hE:∀ h' e,Heap.ExtBut it s.heap h'->(∃ o,h'.get? e=some o/\o.cls=.type "StopIteration")->E (.ref e) { s with heap:=h' }):wpAny (model prog w) A (Builtin.SmallTypes.nextOf (.ref it)) Q E s:=by
 cases k
 ·exact nxT (.inl hh) hit ht (fun v q=>by rw [hx] at q;cases q) fun _=>hE
 ·exact wpAny_nextOf_list_end hh hit ht hx hE
def pT (f0:Value) (k1 k2:Bool) (l1 l2 n:Addr) (j1 j2:Nat) (h:Heap):Prop:=
 IsZip h (n+4) (n+2) (n+3) f0/\IsPair h (n+2) (.ref n) (.ref (n+1))/\(∃ a b,IsPair h (n+3) a b)/\vP k1 h n l1 j1/\vP k2 h (n+1) l2 j2
def iS (n:Addr) (h h2:Heap):Prop:=∀ c o,c≠n+4->c≠n+3->c≠n->c≠n+1->h.get? c=some o->h2.get? c=some o
theorem iS.then {n:Addr} {h h1 h2:Heap} (a:iS n h h1) (b:iS n h1 h2):iS n h h2:=fun c o c1 c2 c3 c4 e=>b c o c1 c2 c3 c4 (a c o c1 c2 c3 c4 e)
theorem iS.eb {n a:Addr} {h h2:Heap} (k:Heap.ExtBut a h h2) (m:a=n+4∨a=n+3∨a=n∨a=n+1):iS n h h2:=fun c o c1 c2 c3 c4 e=>k c o (fun z=>by subst z;rcases m with m | m | m | m<;>contradiction) e
theorem iS.sq {k:Bool} {n l:Addr} {h h2:Heap} {xs:Array Value} (a:iS n h h2) (hl:l < n) (x:oP k h l xs):oP k h2 l xs:=
 x.go fun o e=>a l o (Nat.ne_of_lt (Nat.lt_add_right 4 hl)) (Nat.ne_of_lt (Nat.lt_add_right 3 hl)) (Nat.ne_of_lt hl) (Nat.ne_of_lt (Nat.lt_succ_of_lt hl)) e
theorem zBY (n:Addr):n+3≠n+4/\n+2≠n+4/\n≠n+4/\n+1≠n+4/\n+2≠n+3/\n≠n+3/\n+1≠n+3/\n+2≠n/\n+1≠n/\n+2≠n+1:=by
 refine ⟨?_,?_,?_,?_,?_,?_,?_,?_,?_,?_⟩<;>(intro z;have z':(_:Nat)=_:=z;omega)
theorem pT.fld {f0:Value} {k1 k2:Bool} {l1 l2 n:Addr} {j1 j2:Nat} {h h2:Heap} (g:pT f0 k1 k2 l1 l2 n j1 j2 h) {f1:Value} (z:IsZip h2 (n+4) (n+2) (n+3) f1) (s:Heap.ExtBut (n+4) h h2):pT f1 k1 k2 l1 l2 n j1 j2 h2:=by
 obtain ⟨_,g2,⟨a,b,g3⟩,g4,g5⟩:=g
 obtain ⟨e1,e2,e3,e4,_⟩:=zBY n
 exact ⟨z,s _ _ e2 g2,⟨a,b,s _ _ e1 g3⟩,g4.go fun o e=>s _ o e3 e,g5.go fun o e=>s _ o e4 e⟩
theorem pT.it1 {f0:Value} {k1 k2:Bool} {l1 l2 n:Addr} {j1 j2 m:Nat} {h h2:Heap} (g:pT f0 k1 k2 l1 l2 n j1 j2 h) (z:vP k1 h2 n l1 m) (s:Heap.ExtBut n h h2):pT f0 k1 k2 l1 l2 n m j2 h2:=by
 obtain ⟨g1,g2,⟨a,b,g3⟩,_,g5⟩:=g
 obtain ⟨e1,e2,e3,e4,e5,e6,e7,e8,e9,_⟩:=zBY n
 exact ⟨s _ _ e3.symm g1,s _ _ e8 g2,⟨a,b,s _ _ e6.symm g3⟩,z,g5.go fun o e=>s _ o e9 e⟩
theorem pT.it2 {f0:Value} {k1 k2:Bool} {l1 l2 n:Addr} {j1 j2 m:Nat} {h h2:Heap} (g:pT f0 k1 k2 l1 l2 n j1 j2 h) (z:vP k2 h2 (n+1) l2 m) (s:Heap.ExtBut (n+1) h h2):pT f0 k1 k2 l1 l2 n j1 m h2:=by
 obtain ⟨g1,g2,⟨a,b,g3⟩,g4,_⟩:=g
 obtain ⟨e1,e2,e3,e4,e5,e6,e7,e8,e9,e10⟩:=zBY n
 exact ⟨s _ _ e4.symm g1,s _ _ e10 g2,⟨a,b,s _ _ e7.symm g3⟩,g4.go fun o e=>s _ o e9.symm e,z⟩
theorem pT.out {f0 a b:Value} {k1 k2:Bool} {l1 l2 n:Addr} {j1 j2:Nat} {h h2:Heap} (g:pT f0 k1 k2 l1 l2 n j1 j2 h) (z:IsPair h2 (n+3) a b) (s:Heap.ExtBut (n+3) h h2):pT f0 k1 k2 l1 l2 n j1 j2 h2:=by
 obtain ⟨g1,g2,_,g4,g5⟩:=g
 obtain ⟨e1,e2,e3,e4,e5,e6,e7,_⟩:=zBY n
 exact ⟨s _ _ e1.symm g1,s _ _ e5 g2,⟨a,b,z⟩,g4.go fun o e=>s _ o e6 e,g5.go fun o e=>s _ o e7 e⟩
theorem zJT {k1 k2:Bool} {n l1 l2:Addr} {j:Nat} {xs ys:Array Value} {Q:PySem.Fin->Shared->Prop} (hh:A.handled=none) (b1:l1 < n) (b2:l2 < n) (g:pT .none k1 k2 l1 l2 n j j s.heap) (d1:oP k1 s.heap l1 xs) (d2:oP k2 s.heap l2 ys)
  (go:∀ x y,xs[j]?=some x->ys[j]?=some y->∀ h2,pT (rawInt s.heap.objs.size) k1 k2 l1 l2 n (j+1) (j+1) h2->IsPair h2 s.heap.objs.size x y->iS n s.heap h2->Q (.done (.ret (.ref s.heap.objs.size))) { s with heap:=h2 })
  (stop:xs[j]?=none∨ys[j]?=none->∀ h2 e,iS n s.heap h2->(∃ o,h2.get? e=some o/\o.cls=.type "StopIteration")->E (.ref e) { s with heap:=h2 }):
  wpAny (model prog w) A (Builtin.«zip.__next__» ⟨[.ref (n+4)],[]⟩) Q E s:=by
 have stopZ:∀ {h1:Heap} {e:Addr} {v:Value} {k:Nat} {R:Unit->Shared->Prop},(xs[j]?=none∨ys[j]?=none)->iS n s.heap h1->IsZip h1 (n+4) (n+2) (n+3) .ellipsis->(∃ o,h1.get? e=some o/\o.cls=.type "StopIteration")->k < 5->
   (∀ h3,iS n s.heap h3->(∃ o,h3.get? e=some o/\o.cls=.type "StopIteration")->R () { s with heap:=h3 })->wpAny (model prog w) A (setField (.ref (n+4)) k v) R E { s with heap:=h1 }:=by
  intro h1 e v k R q kz z he hk fin
  obtain ⟨oe,e1,e2⟩:=he
  have nz:e≠n+4:=fun y=>by subst y;rw [z] at e1;cases e1;simp at e2
  exact wpAny_setField_rec z (by simpa using hk) fun h3 _ s3=>fin h3 (kz.then (.eb s3.extBut (.inl rfl))) ⟨oe,s3.extBut _ _ nz e1,e2⟩
 obtain ⟨z0,t0,⟨a,b,p0⟩,_⟩:=id g
 refine show wpAny _ _ (field _ 2 >>= _) _ _ s from wpAny_bind (wpAny_field z0 rfl (x:=.bool false) rfl (show wpAny _ _ (field _ 3 >>= _) _ _ s from wpAny_bind (wpAny_field z0 rfl (x:=.ref (n+2)) rfl (wpAny_bind (wpAny_seqItems t0 rfl (wpAny_bind ?_))))))
 unfold Builtin.SmallTypes.ownedTupleIsFree
 refine wpAny_bind (wpAny_field z0 rfl (x:=.none) rfl (wpAny_pure ?_))
 simp only [if_true]
 refine wpAny_bind (wpAny_rule (wpAny_bind (wpAny_field z0 rfl (x:=.ref (n+3)) rfl (wpAny_bind (wpAny_setField_rec z0 (by simp) fun h1 z1 s1=>wpAny_bind ?_)))))
 have g1:pT .ellipsis k1 k2 l1 l2 n j j h1:=g.fld z1 s1.extBut
 have k1':iS n s.heap h1:=.eb s1.extBut (.inl rfl)
 simp only [List.zipIdx_cons,List.zipIdx_nil,List.forIn_cons,List.forIn_nil]
 refine wpAny_bind (wpAny_bind (wpAny_onRaise (show wpAny _ _ (Builtin.SmallTypes.nextOf _ >>= _) _ _ _ from wpAny_bind ?_)))
 cases q1:xs[j]? with
 | none=>
  refine zDb (s:={ s with heap:=h1 }) hh g1.2.2.2.1 (k1'.sq b1 d1) q1 fun h2 e x2 he=>stopZ (.inl q1) (k1'.then (.eb x2 (.inr (.inr (.inl rfl))))) (x2 _ _ (zBY n).2.2.1.symm g1.1) he (by decide) fun h3=>stop (.inl q1) h3 e
 | some x=>
  refine zAS (s:={ s with heap:=h1 }) g1.2.2.2.1 (k1'.sq b1 d1) q1 fun h2 i2 s2=>wpAny_pure ?_
  have g2:=g1.it1 i2 s2.extBut
  have k2':=k1'.then (.eb s2.extBut (.inr (.inr (.inl rfl))))
  have p2:IsPair h2 (n+3) a b:=s2.extBut _ _ (zBY n).2.2.2.2.2.1.symm (s1.extBut _ _ (zBY n).1 p0)
  refine wpAny_bind (wpAny_seqItems (s:={ s with heap:=h2 }) p2 rfl (wpAny_bind (wpAny_updateSeq_pair p2 fun h3 p3 s3=>wpAny_bind (wpAny_letGo (wpAny_pure ?_)))))
  have g3:=g2.out p3 s3.extBut
  have k3':=k2'.then (.eb s3.extBut (.inr (.inl rfl)))
  refine wpAny_bind (wpAny_bind (wpAny_onRaise (show wpAny _ _ (Builtin.SmallTypes.nextOf _ >>= _) _ _ _ from wpAny_bind ?_)))
  cases q2:ys[j]? with
  | none=>
   refine zDb (s:={ s with heap:=h3 }) hh g3.2.2.2.2 (k3'.sq b2 d2) q2 fun h4 e x4 he=>stopZ (.inr q2) (k3'.then (.eb x4 (.inr (.inr (.inr rfl))))) (x4 _ _ (zBY n).2.2.2.1.symm g3.1) he (by decide) fun h5=>stop (.inr q2) h5 e
  | some y=>
   refine zAS (s:={ s with heap:=h3 }) g3.2.2.2.2 (k3'.sq b2 d2) q2 fun h4 i4 s4=>wpAny_pure ?_
   have g4:=g3.it2 i4 s4.extBut
   have p4:IsPair h4 (n+3) x b:=s4.extBut _ _ (zBY n).2.2.2.2.2.2.1.symm p3
   refine wpAny_bind (wpAny_seqItems (s:={ s with heap:=h4 }) p4 rfl (wpAny_bind (wpAny_updateSeq_pair p4 fun h5 p5 s5=>wpAny_bind (wpAny_letGo (wpAny_pure (wpAny_pure ?_))))))
   have p5:IsPair h5 (n+3) x y:=p5
   have g5:=g4.out p5 s5.extBut
   have k5':=(k3'.then (.eb s4.extBut (.inr (.inr (.inr rfl))))).then (.eb s5.extBut (.inr (.inl rfl)))
   have sz:h5.objs.size=s.heap.objs.size:=s5.1.trans (s4.1.trans (s3.1.trans (s2.1.trans s1.1)))
   refine wpAny_bind (wpAny_seqItems (s:={ s with heap:=h5 }) p5 rfl (wpAny_bind (wpAny_newTuple (show wpAny _ _ (Builtin.SmallTypes.ownedTupleHandOut _ (.ref h5.objs.size) >>= _) _ _ _ from wpAny_bind ?_))))
   unfold Builtin.SmallTypes.ownedTupleHandOut
   refine wpAny_bind (wpAny_setField_rec (Heap.get?_push_of_some _ g5.1) (by simp) fun h7 z7 s7=>wpAny_setField_rec z7 (by simp) fun h8 z8 s8=>wpAny_pure ?_)
   have nz:h5.objs.size≠n+4:=Nat.ne_of_gt (Heap.lt_size g5.1)
   have x8:Heap.ExtBut (n+4) h5 h8:=fun c o c1 e=>s8.extBut _ _ c1 (s7.extBut _ _ c1 (Heap.get?_push_of_some _ e))
   have g8:pT (rawInt h5.objs.size) k1 k2 l1 l2 n (j+1) (j+1) h8:=g5.fld z8 x8
   have t8:IsPair h8 h5.objs.size x y:=s8.extBut _ _ nz (s7.extBut _ _ nz (Heap.get?_push_size _ rfl))
   rw [sz] at g8 t8
   show Q (.done (.ret (.ref h5.objs.size))) _
   rw [sz]
   exact go x y q1 q2 h8 g8 t8 (k5'.then (.eb x8 (.inl rfl)))
theorem zJb {k1 k2:Bool} {n l1 l2:Addr} {j:Nat} {xs ys:Array Value} {Q:Option Value->Shared->Prop} (hh:A.handled=none) (b1:l1 < n) (b2:l2 < n) (g:pT .none k1 k2 l1 l2 n j j s.heap) (d1:oP k1 s.heap l1 xs) (d2:oP k2 s.heap l2 ys)
  (go:∀ x y,xs[j]?=some x->ys[j]?=some y->∀ h2,pT (rawInt s.heap.objs.size) k1 k2 l1 l2 n (j+1) (j+1) h2->IsPair h2 s.heap.objs.size x y->iS n s.heap h2->Q (some (.ref s.heap.objs.size)) { s with heap:=h2 })
  (stop:xs[j]?=none∨ys[j]?=none->∀ h2,iS n s.heap h2->Q none { s with heap:=h2 }):wpAny (model prog w) A (pyNext (.ref (n+4))) Q E s:=by
 have ty:s.TypeIs (.ref (n+4)) "zip" := ⟨_,g.1,rfl⟩
 unfold pyNext
 refine wpAny_bind (wpAny_attempt (wpAny_callSpecial?_slot (name:=Str.ofString "__next__") ty F.slot_zip_next (wpAny_call_entry F.slot_zip_next ty F.entry_zip_next
  (zJT hh b1 b2 g d1 d2 (fun x y q1 q2 h2 a1 a2 a3=>⟨_,rfl,wpAny_pure (go x y q1 q2 h2 a1 a2 a3)⟩) fun q h2 e k he=>?_) (F.args_zip_next_1 _))))
 obtain ⟨o,eo,co⟩:=he
 exact wpAny_bind (wpAny_isInstance (T := "StopIteration") (b:=true) ⟨o,eo,co⟩ isSubtype_stop (wpAny_pure (stop q h2 k)))
end
abbrev zO (k:Bool) (l:Addr):Obj:={ cls:=.type (itN k),data:=.fields #[.ref l,.int 0 0] }
abbrev zH2 (k1 k2:Bool) (h:Heap) (l1 l2:Addr):Heap:=(h.push (zO k1 l1)).push (zO k2 l2)
abbrev zH3 (k1 k2:Bool) (h:Heap) (l1 l2:Addr):Heap:=(zH2 k1 k2 h l1 l2).push { cls:=.type "tuple", data:=.seq #[.ref h.objs.size,.ref (h.push (zO k1 l1)).objs.size] }
abbrev zH4 (k1 k2:Bool) (h:Heap) (l1 l2:Addr):Heap:=(zH3 k1 k2 h l1 l2).push { cls:=.type "tuple", data:=.seq #[.none,.none] }
abbrev zH5 (k1 k2:Bool) (h:Heap) (l1 l2:Addr):Heap:=(zH4 k1 k2 h l1 l2).push { cls:=.type "zip", data:=.fields #[.none,.bool false,.bool false,.ref (zH2 k1 k2 h l1 l2).objs.size,.ref (zH3 k1 k2 h l1 l2).objs.size] }
theorem zCH (k1 k2:Bool) (l1 l2:Addr) (xs ys:Array Value):Meets (Builtin.«zip.__new__» ⟨[.type "zip", .ref l1,.ref l2],[]⟩) (fun _ R s=>oP k1 s.heap l1 xs/\oP k2 s.heap l2 ys/\
  R (.ok (.ret (.ref (zH4 k1 k2 s.heap l1 l2).objs.size))) { s with heap:=zH5 k1 k2 s.heap l1 l2 }):=
 .of_wp fun prog w A R s h=>by
  obtain ⟨hp,g,d,tk,os⟩:=s
  obtain ⟨hl1,hl2,h⟩:=h
  have hsub:=sub_zip
  have d1:oP k1 (Shared.heap ⟨hp,g,d,tk,os⟩) l1 xs:=hl1
  have d2:oP k2 (Shared.heap ⟨hp.push { cls:=.type (itN k1),data:=.fields #[.ref l1,.int 0 0] },g,d,tk,os⟩) l2 ys:=hl2.go fun o e=>Heap.get?_push_of_some _ e
  wp_walk using zAs d1,zAs d2
  exact ⟨_,rfl,h⟩
section
variable {prog:Program} {w:World} {A:Around} {E:Value->Shared->Prop} {s:Shared}
theorem zCJ {k1 k2:Bool} {l1 l2:Addr} {xs ys:Array Value} {Q:Value->Shared->Prop} (d1:oP k1 s.heap l1 xs) (d2:oP k2 s.heap l2 ys)
  (h:∀ h2,pT .none k1 k2 l1 l2 s.heap.objs.size 0 0 h2->(∀ c o,s.heap.get? c=some o->h2.get? c=some o)->Q (.ref (s.heap.objs.size+4)) { s with heap:=h2 }):wpAny (model prog w) A (call (.type "zip") [.ref l1,.ref l2]) Q E s:=by
 refine callType_new F.called_zip (by decide) (F.typeCall_zip_2 _ _) (F.newCall_zip_2 _ _) (fun obj=>F.args_object_init_3 obj _ _) F.entry_zip_new (zCH k1 k2 l1 l2 xs ys) ⟨d1,d2,?_⟩
 have up:∀ {h:Heap} {a:Addr} {o ob:Obj},h.get? a=some o->(h.push ob).get? a=some o:=fun e=>Heap.get?_push_of_some _ e
 have m1:(s.heap.push (zO k1 l1)).objs.size=s.heap.objs.size+1:=Heap.size_push ..
 have m2:(zH2 k1 k2 s.heap l1 l2).objs.size=s.heap.objs.size+2:=(Heap.size_push ..).trans (congrArg (·+1) m1)
 have m3:(zH3 k1 k2 s.heap l1 l2).objs.size=s.heap.objs.size+3:=(Heap.size_push ..).trans (congrArg (·+1) m2)
 have m4:(zH4 k1 k2 s.heap l1 l2).objs.size=s.heap.objs.size+4:=(Heap.size_push ..).trans (congrArg (·+1) m3)
 have r0:(zH5 k1 k2 s.heap l1 l2).get? s.heap.objs.size=some (zO k1 l1):=up (up (up (up (Heap.get?_push_size _ rfl))))
 have r1:(zH5 k1 k2 s.heap l1 l2).get? (s.heap.push (zO k1 l1)).objs.size=some (zO k2 l2):=up (up (up (Heap.get?_push_size _ rfl)))
 have r2:(zH5 k1 k2 s.heap l1 l2).get? (zH2 k1 k2 s.heap l1 l2).objs.size=some _:=up (up (Heap.get?_push_size _ rfl))
 have r3:(zH5 k1 k2 s.heap l1 l2).get? (zH3 k1 k2 s.heap l1 l2).objs.size=some _:=up (Heap.get?_push_size _ rfl)
 have r4:(zH5 k1 k2 s.heap l1 l2).get? (zH4 k1 k2 s.heap l1 l2).objs.size=some _:=Heap.get?_push_size _ rfl
 rw [m1] at r1
 rw [m1,m2] at r2
 rw [m3] at r3
 rw [m2,m3,m4] at r4
 show _/\_
 rw [m4]
 exact ⟨⟨_,r4,rfl⟩,h _ ⟨r4,r2,⟨_,_,r3⟩,.mk r0 rfl rfl,.mk r1 rfl rfl⟩ fun c o x=>up (up (up (up (up x))))⟩
end
end L3
namespace L3
open PySem PySem.Spec PyProof.Rows L2
section
variable {X:Cx} {pins:List (Addr×Obj)} {σ:St} {H:Hp} {s:Shared} {h':Heap} {fp:List Addr}
theorem zFn {t':Nat} {p:Addr} {xs:List V} {us:List Value} (I:Inv X pins σ H s) (hf:∀ b∈fp,jR X pins H b) (k:∀ b o,b∉fp->s.heap.get? b=some o->h'.get? b=some o)
  (hp:s.heap.objs.size<=p) (ht:IsTup h' p us.toArray) (hv:cO xs us) (hz:xs.length<=sizeLine):Inv X pins σ (upd H p (.tup xs)) { s with heap:=h',toks:=t' }:=by
 have hn:H p=none:=I.hok.fresh hp
 have nf:∀ b u,H b=some u->b∉fp:=fun b u e z=>by rw [(hf b z).1] at e;cases e
 have np:∀ b u,H b=some u->upd H p (.tup xs) b=some u:=fun b u e=>by rw [aO (aR e hn)];exact e
 refine I.step (g':=s.gens) (d':=s.drawn) (ch:=fp) (fun b hb=>⟨(hf b hb).2.2.2.1,(hf b hb).2.1,(hf b hb).2.2.2.2.1,(hf b hb).2.2.2.2.2⟩) (fun b o _ _ hc e _=>k b o hc e) (fun b o _ _ hc e _=>⟨o.slots,k b o hc e⟩) (fun b o _ e n=>?_)
  (fun b o hc e=>⟨o,k b o hc e⟩) (fun b xs e=>np _ _ e) (fun b o u e=>np _ _ e) (fun b ps e=>⟨#[],by rw [np _ _ e];simp⟩) (fun m hm=>?_) (fun b u e=>?_) I.bare
 ·rw [aO (Nat.ne_of_lt (Nat.lt_of_lt_of_le (Heap.lt_size e) hp))];exact n
 ·obtain ⟨o,es,ep,ho,r⟩:=hm
  exact ⟨o,es,ep,k _ o (fun z=>(hf _ z).2.1 rfl) ho,r⟩
 ·by_cases hb:b=p
  ·subst hb
   rw [aH] at e;cases e
   exact ⟨hz,us,hv,ht⟩
  ·rw [aO hb] at e
   refine (I.hok b u e).stay (fun c v hc q=>k c v ?_ q) (fun _ q=>np _ _ q) fun _ _ q=>np _ _ q
   rcases hc with z | z
   ·rw [z];exact nf b u e
   ·exact nf c _ z
theorem zEx {t':Nat} (I:Inv X pins σ H s) (hf:∀ b∈fp,jR X pins H b) (k:∀ b o,b∉fp->s.heap.get? b=some o->h'.get? b=some o):Inv X pins σ H { s with heap:=h',toks:=t' }:=by
 have nf:∀ b u,H b=some u->b∉fp:=fun b u e z=>by rw [(hf b z).1] at e;cases e
 refine I.step (g':=s.gens) (d':=s.drawn) (ch:=fp) (fun b hb=>⟨(hf b hb).2.2.2.1,(hf b hb).2.1,(hf b hb).2.2.2.2.1,(hf b hb).2.2.2.2.2⟩) (fun b o _ _ hc e _=>k b o hc e) (fun b o _ _ hc e _=>⟨o.slots,k b o hc e⟩) (fun b o _ e n=>n)
  (fun b o hc e=>⟨o,k b o hc e⟩) (fun b xs e=>e) (fun b o u e=>e) (fun b ps e=>⟨#[],by rw [e];simp⟩) (fun m hm=>?_) (fun b u e=>?_) I.bare
 ·obtain ⟨o,es,ep,ho,r⟩:=hm
  exact ⟨o,es,ep,k _ o (fun z=>(hf _ z).2.1 rfl) ho,r⟩
 ·refine (I.hok b u e).stay (fun c v hc q=>k c v ?_ q) (fun _ q=>q) fun _ _ q=>q
  rcases hc with z | z
  ·rw [z];exact nf b u e
  ·exact nf c _ z
end
def SqK (k:Bool) (K:PySem.W.Frag) (H:Hp) (a:Addr) (xs:List V):Prop:=if k then SqL K H a xs else SqT K H a xs
theorem mT {k:Bool} {K:PySem.W.Frag} {H H':Hp} (e:Same H H') {a:Addr} {xs:List V} (h:SqK k K H a xs):SqK k K H' a xs:=by
 cases k
 ·exact bY e h
 ·exact bC e h
section
variable {X:Cx} {pins:List (Addr×Obj)} {σ:St} {H:Hp} {s:Shared} {k:Bool} {a:Addr} {xs ys:List V}
theorem sqI (I:Inv X pins σ H s) (h:SqK k X.K H a xs):∃ its:List Value,cO xs its/\oP k s.heap a its.toArray/\xs.length<=sizeLine:=by
 cases k
 ·obtain ⟨its,rv,p,hz⟩:=I.tuple h
  exact ⟨its,rv,p,hz⟩
 ·obtain ⟨its,rv,p,hz⟩:=I.list h
  exact ⟨its,rv,p.isList,hz⟩
theorem zAF (I:Inv X pins σ H s) (h:SqK k X.K H a xs) (h':SqK k X.K H a ys):xs=ys:=by
 cases k
 ·exact I.tuple_inj h h'
 ·exact I.list_inj h h'
theorem oP.lt {h:Heap} {l:Addr} {xs:Array Value} (x:oP k h l xs):l < h.objs.size:=by
 cases k<;>(obtain ⟨o,e,_⟩:=x;exact Heap.lt_size e)
end
def Itz (K:PySem.W.Frag) (k1 k2:Bool) (a1 a2:Addr):It:=
  ⟨fun i H=>∃ xs ys x y,SqK k1 K H a1 xs/\SqK k2 K H a2 ys/\xs[i]?=some x/\ys[i]?=some y,
   fun i H v H'=>∃ p x y,v=.ref p/\H p=none/\H'=upd H p (.tup [x,y])/\(∀ xs,SqK k1 K H a1 xs->xs[i]?=some x)/\∀ ys,SqK k2 K H a2 ys->ys[i]?=some y,
   fun i H=>∃ xs ys,SqK k1 K H a1 xs/\SqK k2 K H a2 ys/\(xs.length<=i∨ys.length<=i)⟩
def zJt (k1 k2:Bool) (a1 a2 n:Addr) (i:Nat) (h:Heap):Prop:=pT .none k1 k2 a1 a2 n i i h
theorem nA {h:Heap} {b:Addr} {o:Obj} {d:Data} (e:h.get? b=some o) (hd:o.data=d) (nd:∀ v,d≠.cell v):∃ o,h.get? b=some o/\∀ v,o.data≠.cell v:=⟨o,e,fun v z=>nd v (hd.symm.trans z)⟩
theorem zCQ {P:Program} {w:World} {K:PySem.W.Frag} {elts:List Expr} {x1:Nat} {tp:Pos} (k1 k2:Bool) (a1 a2 n:Addr) (l1:a1 < n) (l2:a2 < n):
  Turn P w K (.Tuple elts x1 tp) (Itz K k1 k2 a1 a2) [n+4,n+2,n+3,n,n+1] (n+4) (zJt k1 k2 a1 a2 n) where
 mem:=by simp
 obj:=fun i h st b hb=>by
  obtain ⟨t1,t2,⟨a,b',t3⟩,t4,t5⟩:=st
  obtain ⟨o4,e4,_,d4⟩:=t4.get
  obtain ⟨o5,e5,_,d5⟩:=t5.get
  simp only [List.mem_cons,List.not_mem_nil,or_false] at hb
  rcases hb with rfl | rfl | rfl | rfl | rfl
  ·exact nA t1 rfl fun v z=>by cases z
  ·exact nA t2 rfl fun v z=>by cases z
  ·exact nA t3 rfl fun v z=>by cases z
  ·exact nA e4 d4 fun v z=>by cases z
  ·exact nA e5 d5 fun v z=>by cases z
 keep:=fun i h h' st k=>by
  obtain ⟨t1,t2,⟨a,b',t3⟩,t4,t5⟩:=st
  exact ⟨k _ (by simp) _ t1,k _ (by simp) _ t2,⟨a,b',k _ (by simp) _ t3⟩,t4.go fun o e=>k _ (by simp) o e,t5.go fun o e=>k _ (by simp) o e⟩
 item:=by
  intro X hP hw hK hc i pins s σ H E I hf st hg
  subst hP hw hK
  obtain ⟨xs,ys,x,y,q1,q2,hx,hy⟩:=hg
  obtain ⟨us,r1,s1,z1⟩:=sqI I q1
  obtain ⟨ws,r2,s2,z2⟩:=sqI I q2
  obtain ⟨u,hu,ru⟩:=r1.get hx
  obtain ⟨v,hv,rv⟩:=r2.get hy
  have hu':us.toArray[i]?=some u:=by simpa using hu
  have hv':ws.toArray[i]?=some v:=by simpa using hv
  have st':=st
  obtain ⟨t1,t2,⟨a,b,t3⟩,t4,t5⟩:=st
  refine zJb (I.ok.hd hc) l1 l2 st' s1 s2 (fun x' y' f1 f2 h' g' p' kz=>?_) (fun q=>?_)
  rotate_left
  ·rw [hu',hv'] at q;rcases q with q | q<;>cases q
  rw [hu'] at f1;cases f1
  rw [hv'] at f2;cases f2
  refine ⟨_,rfl,wpAny_letOwnedTupleGo_zip (s:={ s with heap:=h' }) g'.1 fun h'' c1 c2=>?_⟩
  have zl:s.heap.objs.size≠n+4:=Nat.ne_of_gt (Heap.lt_size t1)
  have np:H s.heap.objs.size=none:=I.hok.fresh (Nat.le_refl _)
  have I1:Inv X pins σ (upd H s.heap.objs.size (.tup [x,y])) { s with heap:=h'',toks:=s.toks }:=zFn (us:=[u,v]) I hf (fun b o hb e=>by
    simp only [List.mem_cons,List.not_mem_nil,or_false,not_or] at hb
    exact c2.extBut b o hb.1 (kz b o hb.1 hb.2.2.1 hb.2.2.2.1 hb.2.2.2.2 e)) (Nat.le_refl _) ⟨_,c2.extBut _ _ zl p',rfl,_,rfl⟩ (.cons ru (.cons rv .nil)) (show 2<=sizeLine by decide)
  refine ⟨.ref s.heap.objs.size,_,I1,rfl,⟨_,x,y,rfl,np,rfl,fun zs hz=>by rw [zAF I hz q1];exact hx,fun zs hz=>by rw [zAF I hz q2];exact hy⟩,g'.fld c1 c2.extBut,fun b hb=>?_⟩
  ·obtain ⟨o,e,_⟩:∃ o,s.heap.get? b=some o/\True:=by
    obtain ⟨o4,e4,_⟩:=t4.get
    obtain ⟨o5,e5,_⟩:=t5.get
    simp only [List.mem_cons,List.not_mem_nil,or_false] at hb
    rcases hb with rfl | rfl | rfl | rfl | rfl
    ·exact ⟨_,t1,trivial⟩
    ·exact ⟨_,t2,trivial⟩
    ·exact ⟨_,t3,trivial⟩
    ·exact ⟨_,e4,trivial⟩
    ·exact ⟨_,e5,trivial⟩
   rw [aO (Nat.ne_of_lt (Heap.lt_size e))]
   exact (hf b hb).1
 done:=by
  intro X hP hw hK hc i pins s σ H E I hf st hg
  subst hP hw hK
  obtain ⟨xs,ys,q1,q2,hl⟩:=hg
  obtain ⟨us,r1,s1,z1⟩:=sqI I q1
  obtain ⟨ws,r2,s2,z2⟩:=sqI I q2
  have st':=st
  obtain ⟨t1,t2,⟨a,b,t3⟩,t4,t5⟩:=st
  have e1:=r1.length
  have e2:=r2.length
  refine zJb (I.ok.hd hc) l1 l2 st' s1 s2 (fun x y f1 f2=>?_) fun _ h' b7=>⟨rfl,zEx (t':=s.toks) I hf fun b o hb e=>?_⟩
  ·have m1:=(Array.getElem?_eq_some_iff.mp f1).1
   have m2:=(Array.getElem?_eq_some_iff.mp f2).1
   rw [List.size_toArray] at m1 m2
   omega
  ·simp only [List.mem_cons,List.not_mem_nil,or_false,not_or] at hb
   exact b7 b o hb.1 hb.2.2.1 hb.2.2.2.1 hb.2.2.2.2 e
 self:=fun _ _ _ _ _ st h=>wpAny_pyIter_zip st.1 h
section
unseal PEd PEf PTd PWd PAd PSd cI POd PGd eA PId PSx eN PTs PCd PCf
variable {X:Cx} {G:Gx} {fs:Fv} {f:Ev}
def iZp (K:PySem.W.Frag) (ta:TA):TI:=fun σ H R=>ta σ H fun vs H1=>∃ k1 k2 a1 a2 xs ys,vs=[.ref a1,.ref a2]/\SqK k1 K H1 a1 xs/\SqK k2 K H1 a2 ys/\R (Itz K k1 k2 a1 a2) H1
theorem zHg {a b:Expr} {ta:TA} {p pos:Pos} {elts:List Expr} {x1:Nat} {tp:Pos} (hg:Gl X "zip") (hm:X.mg "zip" = none) (ha:PA X [a,b] ta)
  (hs:starEach [a,b] X.env=[(false,eval a X.env),(false,eval b X.env)]:=by rfl) (hs2:starEach [b] X.env=[(false,eval b X.env)]:=by rfl):PI X (.Tuple elts x1 tp) (.Call (.Name "zip" p) [a,b] [] pos) (iZp X.K ta):=by
 intro pins s σ H R I h
 refine Call_ (nB I hg hm boot_zip (PyProof.Rows.callWith_type1 (thn (ha pos pins s σ H _ I h) fun us s1 ⟨vs,H1,I1,r1,q1⟩=>?_) (by rw [hs,hs2]) (by rw [hs2];rfl)))
 obtain ⟨k1,k2,a1,a2,xs,ys,rfl,h1,h2,q⟩:=q1
 cases r1 with
 | cons r rr=>
  cases rr with
  | cons r' rr=>
   cases rr
   cases r
   cases r'
   obtain ⟨us,rv,p1,z1⟩:=sqI I1 h1
   obtain ⟨ws,rw_,p2,z2⟩:=sqI I1 h2
   refine zCJ p1 p2 fun h' b1 b6=>wpAny_pyIter_zip (s:={ s1 with heap:=h' }) b1.1 ?_
   refine ⟨s1.heap.objs.size+4,_,_,_,H1,rfl,I1.kept (t':=s1.toks) b6,zCQ k1 k2 a1 a2 s1.heap.objs.size p1.lt p2.lt,b1,fun b hb=>?_,q⟩
   have hb':s1.heap.objs.size<=b:=by
    simp only [List.mem_cons,List.not_mem_nil,or_false] at hb
    rcases hb with rfl | rfl | rfl | rfl | rfl<;>omega
   exact I1.fpOk hb' (I1.hok.fresh hb')
theorem tG:∀ (xs ys:List D) (i:Nat) (d:D),(jF xs ys)[i]?=some d->∃ a b,xs[i]?=some a/\ys[i]?=some b/\d=.tup [a,b]
 | a::r,b::q,0,d,h=>by cases h;exact ⟨a,b,rfl,rfl,rfl⟩
 | a::r,b::q,i+1,d,h=>tG r q i d h
 | [],_,i,d,h=>by cases i<;>cases h
 | a::r,[],i,d,h=>by cases i<;>cases h
theorem sP:∀ (xs ys:List D),(jF xs ys).length=min xs.length ys.length
 | a::r,b::q=>by
  have:=sP r q
  simp only [jF,List.length_cons,this]
  omega
 | [],_=>by simp [jF]
 | a::r,[]=>by simp [jF]
theorem zAA {K:PySem.W.Frag} {Hi:Hp} {k1 k2:Bool} {a1 a2:Addr} {xs ys:List V} {ds es:List D} (h1:SqK k1 K Hi a1 xs) (h2:IsDs K Hi xs ds) (h3:SqK k2 K Hi a2 ys) (h4:IsDs K Hi ys es):
  oM K Hi (Itz K k1 k2 a1 a2) (jF ds es):=fun Hi1 H1 s1 s2 i=>by
 have g1:=mT (s1.trans s2) h1
 have g3:=mT (s1.trans s2) h3
 refine ⟨fun hl=>⟨xs,ys,g1,g3,?_⟩,fun d hd=>?_⟩
 ·rw [sP] at hl
  have e1:=h2.length
  have e2:=h4.length
  omega
 ·obtain ⟨a,b,ha,hb,rfl⟩:=tG ds es i d hd
  obtain ⟨v,hv,rv⟩:=h2.at ha
  obtain ⟨w,hw,rw_⟩:=h4.at hb
  refine ⟨⟨xs,ys,v,w,g1,g3,hv,hw⟩,fun x H2 y=>?_⟩
  obtain ⟨p,x',y',rfl,hp,rfl,y1,y2⟩:=y
  have e1:=y1 xs g1
  have e2:=y2 ys g3
  rw [hv] at e1;cases e1
  rw [hw] at e2;cases e2
  have hi:=s2.none hp
  have sm:=cA hi (.tup [v,w])
  exact ⟨upd Hi1 p (.tup [v,w]),Ext.new s2 hp,.tup (.inl (.inl aH)) (.cons ((rv.mono s1).mono sm) (.cons ((rw_.mono s1).mono sm) .nil))⟩
theorem zJg {K:PySem.W.Frag} {H:Hp} {v:V} {d:D} {ds:List D} (h:IsD K H v d) (e:zBM d=some ds):∃ k a xs,v=.ref a/\SqK k K H a xs/\IsDs K H xs ds:=by
 cases d with
 | lst es=>cases e;obtain ⟨a,xs,rfl,h1,h2⟩:=h.lstI;exact ⟨true,a,xs,rfl,h1,h2⟩
 | tup es=>cases e;obtain ⟨a,xs,rfl,h1,h2⟩:=h.tupI;exact ⟨false,a,xs,rfl,h1,h2⟩
 | _=>cases e
theorem zGL {a b:Expr} {p pos:Pos} {elts:List Expr} {x1:Nat} {tp:Pos} (hg:Gl X "zip") (hm:X.mg "zip" = none) (ha:PAd X G [a,b] fs)
  (hs:starEach [a,b] X.env=[(false,eval a X.env),(false,eval b X.env)]:=by rfl) (hs2:starEach [b] X.env=[(false,eval b X.env)]:=by rfl):
  PId X G (.Tuple elts x1 tp) (.Call (.Name "zip" p) [a,b] [] pos) (zHl fs):=PI.wk (zHg hg hm ha hs hs2) fun σ H Q q=>by
 obtain ⟨ρ,Hi,R,ou⟩:=q
 refine zBP R ou fun vs ds Hi1 H1 e1 R1 r1 o1=>?_
 split at o1
 ·rename_i x y
  obtain ⟨v,w,rfl,h,h'⟩:=r1.two
  split at o1
  ·rename_i ds es q1 q2
   obtain ⟨k1,a1,xs,rfl,g1,g2⟩:=zJg h q1
   obtain ⟨k2,a2,ys,rfl,g3,g4⟩:=zJg h' q2
   exact ⟨k1,k2,a1,a2,xs,ys,rfl,mT R1.s g1,mT R1.s g3,o1.here R1.s _ (zAA g1 g2 g3 g4)⟩
  ·exact o1.elim
 ·exact o1.elim
end
end L3
namespace L3
open PySem PySem.Spec PyProof.Rows L2
unseal PEd PEf PTd PWd PAd PSd cI POd PGd eA PId PSx eN PTs PCd PCf
structure BlkOk2 (X:Cx) (xs:List Str) (scope:Scope):Prop where
 kind:scope.kind=.function
 cell:∀ y∈scope.names,y.2≠.cell
 loc:∀ x∈xs,scope.names.lookup x=some .local
 names:∀ y∈scope.names,y.2=.local->scope.names.lookup y.1=some .local
 fre:∀ p∈scope.names,p.2=.free->X.env.kindOf p.1=some .cell∨X.env.kindOf p.1=some .free
 oth:∀ y∈X.N,scope.names.lookup y≠some .local
def tZ (X:Cx) (xs:List Str) (scope:Scope) (C:Addr) (s₂:Shared) (H₂:Hp) (fp:List Addr):Cx:=
  { prog:=X.prog,w:=X.w,K:=X.K,mg:=X.mg,base:=X.base,A:=X.A,N:=X.N++xs,s₀:=s₂,H₀:=H₂,env:=compEnvC scope (uB X.env scope.names []) C X.env,outer:=X.stack,stack:=X.stack,
    ex:=fp,fn:=fun _=>false,calm:=X.calm,pn:=X.pn,xe:=fun _ _=>False }
section
variable {X:Cx} {pins:List (Addr×Obj)} {σ:St} {H:Hp} {s₂:Shared} {xs:List Str} {scope:Scope} {fp:List Addr} {D C:Addr} {h₁:Heap}
theorem BlkOk2.cl (B:BlkOk2 X xs scope) (I:Inv X pins σ H s₂):∀ p∈scope.names,p.2=.free->∃ c,X.env.cells.lookup p.1=some c:=fun p hp e=>I.ok.has p.1 (B.fre p hp e)
theorem zGB (I:Inv X pins σ H s₂) (B:BlkOk2 X xs scope) (hfp:∀ b∈fp,jR X pins H b) (hfl:∀ b∈fp,b < s₂.heap.objs.size) (hD:s₂.heap.objs.size<=D) (hC:s₂.heap.objs.size<=C) (hDC:D≠C)
  (old:∀ b o,s₂.heap.get? b=some o->h₁.get? b=some o) {n:Nat} (hacc:h₁.get? D=some { cls:=.type "list", data:=.seq ([]:List Value).toArray n }) {m:Str->Option Value} (hns:h₁.Ns C m) (t:Nat):
  Inv (tZ X xs scope C s₂ H fp) pins (σ++xs.map fun _=>none) (upd H D (.lst [])) { s₂ with heap:=h₁,toks:=t }:=by
 have sub:=lI scope.names [] (B.cl I) (fun y c e=>nomatch e)
 have old_lt:∀ {b:Addr} {o:Obj},s₂.heap.get? b=some o->b≠D/\b≠C:=fun e=>⟨Nat.ne_of_lt (Nat.lt_of_lt_of_le (Heap.lt_size e) hD),Nat.ne_of_lt (Nat.lt_of_lt_of_le (Heap.lt_size e) hC)⟩
 have free:∀ {b:Addr},b≠D->H b=none->upd H D (.lst []) b=none:=fun n e=>by rw [aO n];exact e
 refine ⟨⟨I.ok.mod,B.kind,I.ok.glob,I.ok.blt,hC,fun y z c e1 e2=>I.ok.inj y z c (sub y c e1) (sub z c e2),fun y hy=>?_,fun y c e=>(nomatch e),I.ok.hd,I.ok.frames,.inl rfl,fun b hb=>⟨Nat.ne_of_lt (Nat.lt_of_lt_of_le (hfl b hb) hC),fun y c e=>(hfp b hb).2.2.2.2.1 y c (sub y c e)⟩,
  I.bs,Nat.le_trans I.ok.bsz I.sz,fun b o e hb=>?_,fun b hb z=>?_,I.stack,I.stkFree⟩,rfl,I.bare,Un.laid old hD (I.hok.fresh hD),⟨m,hns,fun i y v e1 e2 e3=>?_⟩,fun y c e=>?_,free (Ne.symm hDC) (I.hok.fresh hC),fun y c e=>?_,fun p hp=>?_,I.hok.laid old hD ⟨Nat.zero_le _,[],n,.nil,hacc⟩,?_⟩
 ·have:∃ k,(k=NameKind.cell∨k=NameKind.free)/\((relabel scope X.env).names).lookup y=some k:=hy.elim (fun h=>⟨_,.inl rfl,h⟩) fun h=>⟨_,.inr rfl,h⟩
  obtain ⟨k,hk,e⟩:=this
  have e':(y,NameKind.free)∈scope.names:=by
   rcases bR e with z | ⟨_,z⟩
   ·rcases hk with rfl | rfl
    ·exact absurd rfl (B.cell _ (bG z))
    ·exact bG z
   ·exact bG z
  exact oF scope.names [] y e'
 ·rcases (hfp b hb).2.2.2.1 with z | z
  ·exact I.ok.noex b o e z
  ·exact absurd (Nat.lt_of_lt_of_le (Heap.lt_size e) (Nat.le_trans I.ok.bsz z)) (Nat.lt_irrefl _)
 ·rcases List.mem_cons.mp (I.stkSub b z) with w | w
  ·exact (hfp b hb).2.1 w
  ·exact (hfp b hb).2.2.1 w
 ·
  have hi:i < σ.length:=by
   by_cases hi:i < σ.length
   ·exact hi
   ·exfalso
    rw [List.getElem?_append_right (by omega),List.getElem?_map] at e2
    cases q:xs[i - σ.length]? with
    | none=>rw [q] at e2;cases e2
    | some z=>rw [q] at e2;cases e2
  rw [List.getElem?_append_left hi] at e2
  have e1':(X.N++xs)[i]?=some y:=e1
  rw [List.getElem?_append_left (by rw [<-I.len];exact hi)] at e1'
  cases q:X.N[i]? with
  | none=>rw [q] at e1';cases e1'
  | some z=>
   rw [q] at e1'
   have hy:z=y:=Option.some.inj e1'
   have hz:z∈X.N:=List.mem_of_getElem? q
   subst hy
   have fr:(z,NameKind.free)∈scope.names:=by
    rcases e3 with h | h | h
    ·rcases bR h with h | ⟨h,_⟩
     ·exact absurd h (B.oth z hz)
     ·cases h
    ·rcases bR h with h | ⟨_,h⟩
     ·exact absurd rfl (B.cell _ (bG h))
     ·exact bG h
    ·rcases bR h with h | ⟨h,_⟩
     ·exact bG h
     ·cases h
   have kd:=B.fre _ fr rfl
   obtain ⟨m0,hn0,hl⟩:=I.loc
   obtain ⟨u,ru,lk⟩:=hl i z v q e2 (kd.elim (fun h=>.inr (.inl h)) fun h=>.inr (.inr h))
   refine ⟨u,ru,.inr ⟨?_,?_⟩⟩
   ·rcases e3 with h | h | h
    ·rcases bR h with h | ⟨h,_⟩
     ·exact absurd h (B.oth z hz)
     ·cases h
    ·exact .inl h
    ·exact .inr h
   ·rcases lk with ⟨k1,_⟩ | ⟨_,c,hc,hcell⟩
    ·rcases kd with kd | kd<;>(rw [kd] at k1;cases k1)
    ·obtain ⟨c',hc'⟩:=oF (env:=X.env) scope.names [] z fr
     have:=sub z c' hc'
     rw [hc] at this
     cases this
     obtain ⟨o,ho,hd⟩:=hcell
     exact ⟨c,hc',o,old _ _ ho,hd⟩
 ·obtain ⟨v,o,ho,hd⟩:=I.cell y c (sub y c e)
  exact ⟨v,o,old _ _ ho,hd⟩
 ·obtain ⟨v,o,ho,hd⟩:=I.cell y c (sub y c e)
  exact free (old_lt ho).1 (I.freeC y c (sub y c e))
 ·obtain ⟨e,n,ne,nf,d⟩:=I.pin p hp
  refine ⟨old _ _ e,free (old_lt e).1 n,(old_lt e).2,fun z=>?_,d⟩
  rcases List.mem_cons.mp (I.stkSub _ z) with w | w
  ·exact ne w
  ·exact nf w
 ·show (σ++xs.map fun _=>none).length=(X.N++xs).length
  rw [List.length_append,List.length_append,List.length_map,I.len]
end
theorem uS {f:Ev} {ρ:Rho} {d:D} {ds es:List D} (h:dN f ρ (d::ds)=.ok es):
  ∃ a b e es',d=.tup [a,b]/\f (ρ++[.val a,.val b])=.ok e/\dN f ρ ds=.ok es'/\es=e::es':=by
 unfold dN at h
 split at h
 ·cases ‹_=[]›
 ·rename_i a b ds' q
  cases q
  cases hf:noErr (f (ρ++[.val a,.val b])) with
  | no=>rw [hf] at h;cases h
  | err c=>rw [hf] at h;cases h
  | ok e=>
   rw [hf] at h
   cases hr:dN f ρ ds with
   | no=>simp only [Res.bind,hr] at h;cases h
   | err c=>simp only [Res.bind,hr] at h;cases h
   | ok es'=>
    simp only [Res.bind,hr] at h
    cases h
    exact ⟨a,b,e,es',rfl,qH hf,rfl,rfl⟩
 ·cases h
theorem rV {f:Ev} {ρ:Rho} {c:Str}:∀ {ds:List D},dN f ρ ds≠.err c
 | []=>fun h=>by cases h
 | d::ds=>fun h=>by
  unfold dN at h
  split at h
  ·cases ‹_=[]›
  ·rename_i a b ds' q
   cases q
   cases hf:noErr (f (ρ++[.val a,.val b])) with
   | no=>rw [hf] at h;cases h
   | err c=>cases q:f (ρ++[.val a,.val b])<;>(rw [q] at hf;cases hf)
   | ok e=>
    rw [hf] at h
    cases hr:dN f ρ ds with
    | no=>simp only [Res.bind,hr] at h;cases h
    | err c'=>exact rV hr
    | ok es'=>simp only [Res.bind,hr] at h;cases h
  ·cases h
section
variable {X:Cx} {G:Gx} {elt iter:Expr} {xa xb:Str} {pa pb tp pos:Pos} {x1:Nat} {scope:Scope} {it:Fv} {f:Ev} {k:Nat}
theorem xL (hc:X.calm=true/\TB X.K X.mg G.Bi G.B) (hr:Room k X.A) (Bk:BlkOk2 X [xa,xb] scope) (hN:(X.N++[xa,xb]).Nodup) (hi:PId X G (.Tuple [.Name xa pa,.Name xb pb] x1 tp) iter it)
  (hb:∀ (C:Addr) (s₂:Shared) (H₂:Hp) (fp:List Addr) (G':Gx),Good (tZ X [xa,xb] scope C s₂ H₂ fp) G' k->PEd (tZ X [xa,xb] scope C s₂ H₂ fp) G' elt f)
  (hs:∀ x,foldedSetIterable iter X.env x=pure x:=by intro _;rfl)
  {pins:List (Addr×Obj)} {s:Shared} {σ:St} {H Hi:Hp} {ρ:Rho} {use:Option (Value->Sem Unit)} {Q':Value->Shared->Prop} {Qa:Addr->Hp->Prop} {cpos:Pos} (I:Inv X pins σ H s) (R:fN X G Hi H σ ρ)
  (ou:Out G Hi H ((qB it f) ρ) fun ds Hi' H'=>∀ a,zAJ X.K H Hi' H' a ds->Qa a H') (hend:zIb X pins σ use Q' Qa):
  wpAny (model X.prog X.w) X.A (comprehension (.ListComp elt [⟨.Tuple [.Name xa pa,.Name xb pb] x1 tp,iter,[],0⟩] scope pos) scope X.env cpos (newList []) false (eval iter X.env) use) Q' X.xe s:=by
 refine wpAny_comprehension_free (use:=use) rfl hs (yT (Bk.cl I)) Bk.kind Bk.names ?_
 refine thn (hi pins s σ H (fun J H2=>∃ ds Hi2,Ext Hi H Hi2 H2/\oM X.K Hi2 J ds/\Out G Hi2 H2 (if ds.length<=16777215 then dN f ρ ds else .no) fun ds Hi' H'=>∀ a,zAJ X.K H Hi' H' a ds->Qa a H') I
  ⟨ρ,Hi,R,(Out.bind ou).imp fun ds Hi2 H2 e2 o2 J gv=>⟨ds,Hi2,e2,gv,o2⟩⟩) fun v s1 h1=>thn h1 fun itv s2 h2=>?_
 obtain ⟨itA,fp,tn,J,H2,rfl,I2,T,st2,f2,ds,Hi2,e2,gv,ou2⟩:=h2
 have hlen:ds.length<=16777215:=by
  by_cases hlen:ds.length<=16777215
  ·exact hlen
  ·rw [if_neg hlen] at ou2;exact ou2.elim
 rw [if_pos hlen] at ou2
 cases hes:dN f ρ ds with
 | no=>rw [hes] at ou2;exact ou2.elim
 | err c=>exact absurd hes rV
 | ok es=>
  rw [hes] at ou2
  have R2:fN X G Hi2 H2 σ ρ:=R.grow e2
  refine wpAny_newObj_type (wpAny_newFunctionEnv Bk.cell (by intro y hy;simp at hy) (fun h₁ hns₁ hsb₁=>?_) Bk.kind)
  dsimp only at hns₁ hsb₁ ⊢
  generalize hH2:s2.heap.push { cls:=.type "list", dict:=none,data:=.seq ([]:List Value).toArray }=HP at hns₁ hsb₁ ⊢
  have hC:HP.objs.size=s2.heap.objs.size+1:=by rw [<-hH2,Heap.size_push]
  have hDC:s2.heap.objs.size≠HP.objs.size:=by rw [hC];omega
  have ltC:∀ {b:Addr} {o:Obj},s2.heap.get? b=some o->b≠HP.objs.size:=fun e=>by rw [hC];exact Nat.ne_of_lt (Nat.lt_succ_of_lt (Heap.lt_size e))
  have old:∀ b o,s2.heap.get? b=some o->h₁.get? b=some o:=fun b o e=>hsb₁.extBut b o (ltC e) (Heap.get?_push_of_some _ (hH2 ▸ Heap.get?_push_of_some _ e))
  have hacc:h₁.get? s2.heap.objs.size=some { cls:=.type "list", data:=.seq ([]:List Value).toArray 0 }:=hsb₁.extBut _ _ hDC (Heap.get?_push_of_some _ (hH2 ▸ Heap.get?_push_size _ rfl))
  have hfl:∀ b∈fp,b < s2.heap.objs.size:=fun b hb=>by obtain ⟨o,e,_⟩:=T.obj _ _ st2 b hb;exact Heap.lt_size e
  have IE:=zGB (t:=s2.toks+([]:List (Str×Value)).length) I2 Bk f2 hfl (Nat.le_refl _) (by rw [hC];omega) hDC old hacc hns₁
  have sub:=lI scope.names [] (Bk.cl I2) (fun y c e=>nomatch e)
  have H2D:H2 s2.heap.objs.size=none:=I2.hok.fresh (Nat.le_refl _)
  have HD:H s2.heap.objs.size=none:=e2.h.none H2D
  have Hi2D:Hi2 s2.heap.objs.size=none:=e2.s.none H2D
  generalize hX:tZ X [xa,xb] scope HP.objs.size s2 H2 fp=Y at IE
  have GY:Good Y ⟨G.B,G.Bi,fun _ _=>False⟩ k:=by
   subst hX
   exact ⟨hc.1,hr,fun pins σ H s e s' _ h=>by obtain ⟨_,_,_,_,_,c,_,z⟩:=h;exact z.elim,PassesOwn.never,hc.2⟩
  have hel:=(hX ▸ hb HP.objs.size s2 H2 fp ⟨G.B,G.Bi,fun _ _=>False⟩ (hX.symm ▸ GY):PEd Y ⟨G.B,G.Bi,fun _ _=>False⟩ elt f)
  have stat:∀ {H':Hp},(∀ b∈fp,H' b=none)->∀ b∈fp,jR Y pins H' b:=fun hn b hb=>by
   subst hX
   refine ⟨hn b hb,?_,fun z=>?_,.inl hb,fun y c e=>(f2 b hb).2.2.2.2.1 y c (sub y c e),(f2 b hb).2.2.2.2.2⟩
   ·show b≠HP.objs.size
    rw [hC];exact Nat.ne_of_lt (Nat.lt_succ_of_lt (hfl b hb))
   ·rcases List.mem_cons.mp (I2.stkSub b z) with w | w
    ·exact (f2 b hb).2.1 w
    ·exact (f2 b hb).2.2.1 w
  have YN:Y.N.Nodup:=by subst hX;exact hN
  have Ya:Y.N[σ.length]?=some xa:=by
   subst hX
   show (X.N++[xa,xb])[σ.length]?=some xa
   rw [List.getElem?_append_right (by rw [I2.len];omega),I2.len,Nat.sub_self]
   rfl
  have Yb:Y.N[σ.length+1]?=some xb:=by
   subst hX
   show (X.N++[xa,xb])[σ.length+1]?=some xb
   rw [List.getElem?_append_right (by rw [I2.len];omega),I2.len,Nat.add_sub_cancel_left]
   rfl
  have Yla:Y.env.scope.names.lookup xa=some .local:=by subst hX;exact lookup_relabel_local (Bk.loc xa (by simp))
  have Ylb:Y.env.scope.names.lookup xb=some .local:=by subst hX;exact lookup_relabel_local (Bk.loc xb (by simp))
  have asg:PG Y (.Tuple [.Name xa pa,.Name xb pb] x1 tp) (L2.zFT Y.K 2 (L2.zAj (L2.gName σ.length) (L2.zAj (L2.gName (σ.length+1)) L2.zHQ))):=
   zHy (by subst hX;exact hc.1) (vZ (uJ YN Ya (.inl Yla) (.inr Yla)) (vZ (uJ YN Yb (.inl Ylb) (.inr Ylb)) zEZ))
  have Ye:Y.env=compEnvC scope (uB X.env scope.names []) HP.objs.size X.env:=by subst hX;rfl
  have Yxe:∀ e s,¬ Y.xe e s:=by subst hX;exact fun _ _ h=>h
  have tn1:tn 0 h₁:=T.keep _ _ _ st2 fun b _ o e=>old b o e
  have dX:∀ s3:Shared,s3={ s2 with heap:=h₁,toks:=s2.toks+([]:List (Str×Value)).length }->
    codeAny (model X.prog X.w) X.A (.compLoop (.ListComp elt [⟨.Tuple [.Name xa pa,.Name xb pb] x1 tp,iter,[],0⟩] scope pos) 0 (.ref itA) (.ref s2.heap.objs.size) Y.env) (compPost (model X.prog X.w) X.A X.xe use Q' (.ref s2.heap.objs.size) HP.objs.size) s3:=by
   rintro s3 rfl
   subst hX
   have fr0:∀ b∈fp,upd H2 s2.heap.objs.size (.lst []) b=none:=fun b hb=>by
    rw [aO (Nat.ne_of_lt (hfl b hb))]
    exact (f2 b hb).1
   refine PyProof.Rows.LCp.codeAny_compLoop_pair (fun n s'=>∃ c:CW,n=ds.length - c.i/\CS (tZ X [xa,xb] scope HP.objs.size s2 H2 fp) pins σ tn fp Hi2 H2 s2.heap.objs.size 2 (fun i=>dN f ρ (ds.drop i)) es c s') ?_ ds.length
    ⟨⟨0,[none,none],_,Hi2,[],[],es⟩,rfl,⟨IE,rfl,tn1,fr0,(Ext.refl e2.s).trans (Ext.newF e2.s H2D),aH,Hi2D,.nil,Nat.le_refl _,hes,rfl⟩⟩
   ·rintro n s3 ⟨⟨i,vv,H3,Hi3,ys,done,rest⟩,rfl,I3,wd3,st3,fr3,e3,hD3,hiD3,rd3,hl3,hr3,hes3⟩
    dsimp only at I3 wd3 st3 fr3 e3 hD3 hiD3 rd3 hl3 hr3 hes3 ⊢
    obtain ⟨v,v',rfl⟩:∃ v v',vv=[v,v']:=by
     match vv,wd3 with
     | [v,v'],_=>exact ⟨v,v',rfl⟩
    obtain ⟨w1,w2⟩:=gv Hi3 H3 e3.i e3.s i
    have lift:∀ {α:Type} {m:Sem α} {Q':α->Shared->Prop} {E:Value->Shared->Prop} {s':Shared},wpAny (model X.prog X.w) X.A m Q' (tZ X [xa,xb] scope HP.objs.size s2 H2 fp).xe s'->wpAny (model X.prog X.w) X.A m Q' E s':=fun h=>wpAny_mono h (fun _ _ z=>z) fun e s z=>(Yxe e s z).elim
    by_cases hlt:i < ds.length
    ·obtain ⟨d,hd⟩:∃ d,ds[i]?=some d:=⟨_,List.getElem?_eq_getElem hlt⟩
     obtain ⟨go,yl⟩:=w2 d hd
     have e4:ds.drop i=d::ds.drop (i+1):=by
      rw [List.getElem?_eq_getElem hlt] at hd
      cases hd
      exact List.drop_eq_getElem_cons hlt
     rw [e4] at hr3
     refine thn (T.item (tZ X [xa,xb] scope HP.objs.size s2 H2 fp) rfl rfl rfl hc.1 i pins s3 _ H3 _ I3 (stat fr3) st3 go) fun r s4 ⟨u,hru,h4⟩=>?_
     subst hru
     refine thn h4 fun _ s5 h5=>?_
     obtain ⟨xv,H5,I5,r5,y5,st5,fr5⟩:=h5
     obtain ⟨Hi5,e5,rd5⟩:=yl xv H5 y5
     have I5':=I5.pinned (stat fr5) (T.obj _ _ st5)
     obtain ⟨a,b,e,es',rfl,hf,hr4,hee⟩:=uS hr3
     obtain ⟨pa',ps,rfl,hq,hps⟩:=rd5.tupI
     obtain ⟨va,vb,rfl,ra,rb⟩:=hps.two
     refine lift (thn (asg _ s5 _ H5 _ u (fun σ' H'=>σ'=σ++[some va,some vb]/\H'=H5) I5' r5 ⟨pa',_,rfl,bY (e3.trans e5).s hq,rfl,va,_,rfl,vb,_,rfl,rfl,?_,rfl⟩) fun _ s6 h6=>?_)
     ·rw [List.set_append_right _ _ (Nat.le_refl _),Nat.sub_self,List.set_append_right _ _ (Nat.le_succ _),Nat.succ_sub (Nat.le_refl _),Nat.sub_self];rfl
     obtain ⟨σ6,H6,I6,rfl,rfl⟩:=h6
     have E5:Ext Hi2 H2 Hi5 H6:=e3.trans e5
     have R5:fN (tZ X [xa,xb] scope HP.objs.size s2 H2 fp) ⟨G.B,G.Bi,fun _ _=>False⟩ Hi5 H6 (σ++[some va,some vb]) (ρ++[.val a,.val b]):=by
      have:=Rel.snoc (Rel.snoc (R2.grow E5) ra) rb
      rw [List.append_assoc,List.append_assoc] at this
      exact this
     obtain ⟨hD5,hiD5⟩:=e5.out hD3 hiD3
     have rd5':=rd3.mono e5.i
     have again:∀ {H8 Hi8:Hp} {ys':List V} {done' rest':List D} {s8:Shared},Inv (tZ X [xa,xb] scope HP.objs.size s2 H2 fp) (pins++lK fp s5.heap) (σ++[some va,some vb]) H8 s8->Ext Hi2 H2 Hi8 H8->H8 s2.heap.objs.size=some (.lst ys')->Hi8 s2.heap.objs.size=none->IsDs X.K Hi8 ys' done'->done'.length<=i+1->
       dN f ρ (ds.drop (i+1))=.ok rest'->es=done'++rest'->∃ m,m < ds.length - i/\∃ c:CW,m=ds.length - c.i/\CS (tZ X [xa,xb] scope HP.objs.size s2 H2 fp) pins σ tn fp Hi2 H2 s2.heap.objs.size 2 (fun i=>dN f ρ (ds.drop i)) es c s8:=fun {H8 Hi8 ys' done' rest' s8} I8 E8 a1 a2 a3 a4 a5 a6=>by
      refine ⟨ds.length - (i+1),by omega,⟨i+1,[some va,some vb],H8,Hi8,ys',done',rest'⟩,rfl,⟨I8.unpinned,rfl,T.keep _ _ _ st5 fun b hb o e=>(I8.pin (b,o) (List.mem_append_right _ (List.mem_append_right _ (cN hb e)))).1,fun b hb=>?_,E8,a1,a2,a3,a4,a5,a6⟩⟩
      obtain ⟨o,e,_⟩:=T.obj _ _ st5 b hb
      exact (I8.pin (b,o) (List.mem_append_right _ (List.mem_append_right _ (cN hb e)))).2.1
     refine lift (thn (hel _ s6 _ H6 (fun w H'=>∃ Hi',Ext Hi5 H6 Hi' H'/\IsD X.K Hi' w e) I6 ⟨_,Hi5,R5,by rw [hf];exact fun Hi' H' ee w hw=>⟨Hi',ee,hw⟩⟩) fun u8 s8 h8=>?_)
     obtain ⟨w8,H8,I8,r8,Hi8,e8,rw8⟩:=h8
     obtain ⟨hD8,hiD8⟩:=e8.out hD5 hiD5
     have rdy:IsDs X.K Hi8 ys done:=rd5'.mono e8.i
     refine lift (thn (jL (X:=(tZ X [xa,xb] scope HP.objs.size s2 H2 fp)) _ s8 _ H8 (.ref s2.heap.objs.size) [w8] (.ref s2.heap.objs.size) [u8] (fun _ H'=>H'=upd H8 s2.heap.objs.size (.lst (ys++[w8]))) I8 rfl (.cons r8 .nil) ⟨_,ys,w8,rfl,rfl,hD8,?_,rfl⟩) fun _ s9 h9=>?_)
     ·rw [rdy.length]
      exact Nat.lt_of_le_of_lt hl3 (Nat.lt_of_lt_of_le hlt (Nat.le_trans hlen (by decide)))
     ·obtain ⟨_,H9,I9,_,rfl⟩:=h9
      refine again I9 (Ext.rewrite (E5.trans e8) H2D hiD8 ⟨_,hD8⟩) aH hiD8 (rdy.snoc rw8) (by rw [List.length_append];exact Nat.succ_le_succ hl3) hr4 ?_
      rw [hes3,hee,List.append_assoc];rfl
    ·rw [List.drop_eq_nil_of_le (by omega),dN] at hr3
     cases hr3
     refine thn (T.done (tZ X [xa,xb] scope HP.objs.size s2 H2 fp) rfl rfl rfl hc.1 i pins s3 _ H3 _ I3 (stat fr3) st3 (w1 (by omega))) fun r s4 ⟨hrn,I4⟩=>?_
     subst hrn
     obtain ⟨m4,hn4,_⟩:=I4.loc
     have fC:H3 HP.objs.size=none:=I4.free
     have nC:∀ b u,H3 b=some u->b≠HP.objs.size:=fun b u e z=>by rw [z,fC] at e;cases e
     have U4:=I4.base
     refine hend HP.objs.size s2.heap.objs.size m4 s4 H3 hn4 (fun h' hs'=>?_) (I2.fpOk (by rw [hC];omega) fC) ?_
     ·have kp:∀ b o,b≠HP.objs.size->s4.heap.get? b=some o->h'.get? b=some o:=fun b o hb e=>hs'.extBut b o hb e
      refine Inv.call' I2 (ch:=fp) I4.os ⟨fun b o e n hb hx=>kp b o (ltC e) (U4.keep b o e n hb hx),fun b o e n hb hx=>?_,U4.free,fun b o e hx=>?_,U4.tups,U4.frzs,U4.tbls⟩ (fun b u e=>?_) I4.bare (fun b hb=>⟨(f2 b hb).2.2.2.1,(f2 b hb).2.1,(f2 b hb).2.2.2.2.1,(f2 b hb).2.2.2.2.2⟩)
      ·obtain ⟨sl,q⟩:=U4.slot b o e n hb hx
       exact ⟨sl,kp b _ (ltC e) q⟩
      ·obtain ⟨o',q⟩:=U4.there b o e hx
       exact ⟨o',kp b _ (ltC e) q⟩
      ·refine (I4.hok b u e).stay (fun c v hc q=>kp c v ?_ q) (fun _ q=>q) fun _ _ q=>q
       rcases hc with z | z
       ·rw [z];exact nC b u e
       ·exact nC c _ z
     ·refine ou2 Hi3 H3 e3 _ ⟨HD,hiD3,ys,hD3,?_⟩
      rw [hes3,List.append_nil]
      exact rd3
  rw [Ye] at dX
  exact codeAny_compStart_list (dX _ rfl) (T.self _ 0 _ _ _ tn1 (dX _ rfl))
theorem zCA (hc:X.calm=true/\TB X.K X.mg G.Bi G.B) (hr:Room k X.A) (Bk:BlkOk2 X [xa,xb] scope) (hN:(X.N++[xa,xb]).Nodup) (hi:PId X G (.Tuple [.Name xa pa,.Name xb pb] x1 tp) iter it)
  (hb:∀ (C:Addr) (s₂:Shared) (H₂:Hp) (fp:List Addr) (G':Gx),Good (tZ X [xa,xb] scope C s₂ H₂ fp) G' k->PEd (tZ X [xa,xb] scope C s₂ H₂ fp) G' elt f)
  (hs:∀ x,foldedSetIterable iter X.env x=pure x:=by intro _;rfl):PEf X G (.ListComp elt [⟨.Tuple [.Name xa pa,.Name xb pb] x1 tp,iter,[],0⟩] scope pos) (qB it f):=by
 intro pins s σ H Q I w
 obtain ⟨ρ,Hi,R,ou⟩:=w
 rw [eval_ListComp]
 refine xL hc hr Bk hN hi hb hs (use:=none) (Qa:=fun a H'=>Q (.ref a) H') I R ou fun C A m s4 H3 hn hI _ q=>?_
 exact ⟨m,hn,fun h' hs'=>⟨.ref A,H3,hI h' hs',rfl,q⟩⟩
def zEk (sc:Scope) (N:List Str) (xs:List Str) (scope:Scope):Bool:=
 scope.names.all (fun y=>y.2 != .cell) && xs.all (fun x=>scope.names.lookup x==some .local) && scope.names.all (fun y=>y.2 != .local || scope.names.lookup y.1==some .local)
  && scope.names.all (fun p=>p.2 != .free || (sc.names.lookup p.1==some .cell || sc.names.lookup p.1==some .free)) && N.all (fun y=>scope.names.lookup y != some .local)
theorem zEO {sc:Scope} {N xs:List Str} (hk:scope.kind=.function) (hsc:X.env.scope=sc) (hN:X.N=N) (h:zEk sc N xs scope=true):BlkOk2 X xs scope:=by
 unfold zEk at h
 simp only [Bool.and_eq_true] at h
 obtain ⟨⟨⟨⟨h1,h2⟩,h3⟩,h4⟩,h5⟩:=h
 subst hN hsc
 refine ⟨hk,fun y hy e=>?_,fun x hx=>?_,fun y hy e=>?_,fun p hp e=>?_,fun y hy e=>?_⟩
 ·have:=List.all_eq_true.mp h1 y hy
  rw [e] at this;cases this
 ·exact beq_iff_eq.mp (List.all_eq_true.mp h2 x hx)
 ·have:=List.all_eq_true.mp h3 y hy
  rw [e] at this
  simpa using this
 ·have:=List.all_eq_true.mp h4 p hp
  rw [e] at this
  have q:X.env.scope.names.lookup p.1=some .cell∨X.env.scope.names.lookup p.1=some .free:=by simpa using this
  exact q
 ·have:=List.all_eq_true.mp h5 y hy
  rw [e] at this
  cases this
theorem rZ {sc:Scope} {N:List Str} (W:Good X G k) (hnd:(N++[xa,xb]).Nodup) (hk:scope.kind=.function) (hsc:X.env.scope=sc) (hN:X.N=N) (h:zEk sc N [xa,xb] scope=true) (hi:PId X G (.Tuple [.Name xa pa,.Name xb pb] x1 tp) iter it)
  (hb:∀ (C:Addr) (s₂:Shared) (H₂:Hp) (fp:List Addr) (G':Gx),Good (tZ X [xa,xb] scope C s₂ H₂ fp) G' k->PEd (tZ X [xa,xb] scope C s₂ H₂ fp) G' elt f)
  (hs:∀ x,foldedSetIterable iter X.env x=pure x:=by intro _;rfl):PEf X G (.ListComp elt [⟨.Tuple [.Name xa pa,.Name xb pb] x1 tp,iter,[],0⟩] scope pos) (qB it f):=
 zCA ⟨W.calm,W.tb⟩ W.room (zEO hk hsc hN h) (hN ▸ hnd) hi hb hs
end
end L3
namespace L3
open PySem PySem.Spec PyProof.Rows L2
section
variable {prog:Program} {w:World} {A:Around} {E:Value->Shared->Prop} {s:Shared}
end
section
variable {X:Cx} {G:Gx} {fs:Fv} {f:Ev}
unseal PEd PEf PTd PWd PAd PSd cI POd PGd eA PId PSx eN PTs PCd PCf
end
end L3
namespace L3
open PySem PySem.Spec PyProof.Rows L2
unseal PEd PEf PTd PWd PAd PSd cI POd PGd eA PId PSx eN PTs PCd PCf
section
variable {X:Cx} {G:Gx} {f:Ev} {pos:Pos}
theorem lG:∀ {bs:List Bool} {its:List Value},cO (bs.map V.bl) its->its=bs.map Value.bool
 | [],_,h=>by cases h;rfl
 | b::bs,_,h=>by
  rw [List.map_cons] at h
  cases h with
  | cons r t=>cases r;rw [lG t];rfl
def eB1 (b:Bool):Value->Bool
 | .bool c=>c==b
 | _=>false
theorem zDE {A:Around} {s:Shared} {b:Bool} {bs:List Bool}:∀ y,y∈(bs.map Value.bool).toArray->SeqAt.EqAt A s y (.bool b) (eB1 b y):=fun y h=>by
 rw [List.mem_toArray,List.mem_map] at h
 obtain ⟨c,_,rfl⟩:=h
 exact SeqAt.EqAt.bool_bool c b
theorem lJ (b:Bool):∀ bs:List Bool,(bs.map Value.bool).countP (eB1 b)=bs.countP (·==b)
 | []=>rfl
 | c::bs=>by rw [List.map_cons,List.countP_cons,List.countP_cons,lJ b bs];rfl
def zJL (K:PySem.W.Frag):V->List V->Hp->VK->Prop:=fun x vs H Q=>∃ (a:Addr) (bs:List Bool) (b:Bool),x=.ref a/\vs=[.bl b]/\SqL K H a (bs.map V.bl)/\Q (.int (bs.countP (·==b):Nat)) H
theorem zBX:MtR X "list.count" (zJL X.K):=by
 intro pins s σ H x vs v us Q I rx rv h
 obtain ⟨a,bs,b,rfl,rfl,hq,q⟩:=h
 cases rx
 obtain ⟨u,rfl,ru⟩:=rv.one
 cases ru
 obtain ⟨its,r,pl,_⟩:=I.list hq
 have e1:=lG r
 subst e1
 obtain ⟨o,n,eo,co,cd,dat⟩:=id pl
 obtain ⟨cls,dd,data,sl⟩:=o
 simp only at co dat
 subst co dat
 refine call_meets F.slot_list_count pl.isList.typeIs F.entry_list_count (F.args_list_count_2 _ _) (SeqAt.list_countAt a _ n dd sl (.bool b) (eB1 b)) ⟨eo,zDE,?_⟩
 refine ⟨.int _,H,I.tok _,⟨_,rfl⟩,?_⟩
 show Q (.int ((bs.map Value.bool).countP (eB1 b):Nat)) H
 rw [lJ]
 exact q
def zKe (K:PySem.W.Frag):V->List V->Hp->VK->Prop:=fun x vs H Q=>∃ (a:Addr) (bs:List Bool) (b:Bool) (j:Nat),x=.ref a/\vs=[.bl b]/\SqL K H a (bs.map V.bl)/\bs.findIdx? (·==b)=some j/\Q (.int (j:Nat)) H
theorem zCf:MtR X "list.index" (zKe X.K):=by
 intro pins s σ H x vs v us Q I rx rv h
 obtain ⟨a,bs,b,j,rfl,rfl,hq,hj,q⟩:=h
 cases rx
 obtain ⟨u,rfl,ru⟩:=rv.one
 cases ru
 obtain ⟨its,r,pl,hz⟩:=I.list hq
 have e1:=lG r
 subst e1
 obtain ⟨o,n,eo,co,cd,dat⟩:=id pl
 obtain ⟨cls,dd,data,sl⟩:=o
 simp only at co dat
 subst co dat
 obtain ⟨h1,h2,h3⟩:=List.findIdx?_eq_some_iff_getElem.mp hj
 have hl:(bs.map Value.bool).toArray.size=bs.length:=by rw [List.size_toArray,List.length_map]
 have hn:=qA
 rw [List.length_map] at hz
 refine call_meets F.slot_list_index pl.isList.typeIs F.entry_list_index (F.args_list_index_2 _ _) (SeqAt.list_indexAt a _ n dd sl (.bool b) (eB1 b) j (by rw [hl];exact h1) (by omega) ?_ fun m hm hmj=>?_) ⟨eo,zDE,?_⟩
 ·rw [List.getElem_toArray,List.getElem_map];exact h2
 ·rw [List.getElem_toArray,List.getElem_map]
  have:=h3 m hmj
  show (_==b)=false
  exact Bool.eq_false_iff.mpr this
 ·exact ⟨.int _,H,I.tok _,⟨_,rfl⟩,q⟩
section
variable {o:Expr} {k:Nat} {b:Bool} {p1 p2 p3:Pos}
theorem zHX (ho:PEd X G o f)
  (hbase:attributeBase o "count" X.env (eval o X.env)=eval o X.env:=by rfl)
  (hfew:((backTo p3 (starEach [.Constant (.bool b) k p1] X.env)).all (fun x=>!x.1) && (backToKw p3 (keywordEach [] X.env)).all (fun x=>x.1.isSome)
   && decide ([Expr.Constant (.bool b) k p1].length+([]:List Keyword).length+(if ([]:List Keyword).isEmpty then 0 else 1) < 30))=true:=by rfl)
  (hline:(p2.endLine==p3.line)=true:=by rfl) (hs:starEach [.Constant (.bool b) k p1] X.env=(false,eval (.Constant (.bool b) k p1) X.env)::starEach [] X.env:=by rfl):
  PEd X G (.Call (.Attribute o "count" p2) [.Constant (.bool b) k p1] [] p3) (zJB b f):=
 PE.wk (zCL F.plainAttrs_list F.slot_list_count F.type_list_count zBX ho (dE zCV gJ hs) hbase hfew hline hs rfl) fun σ H Q q=>by
  obtain ⟨ρ,Hi,R,ou⟩:=q
  refine rQ R ou fun v d Hi1 H1 e1 R1 r1 o1=>?_
  cases d with
  | lst ds=>
   obtain ⟨a,xs,rfl,h1,h2⟩:=r1.lstI
   refine ⟨.inl ⟨rfl,xs,bC R1.s h1⟩,?_⟩
   cases z:eY ds with
   | none=>rw [show zIV b (.lst ds)=.no by show (match eY ds with | some bs=>_ | none=>Res.no)=_;rw [z]] at o1;exact o1.elim
   | some bs=>
    rw [show zIV b (.lst ds)=.ok (.int (bs.countP (·==b):Nat)) by show (match eY ds with | some bs=>_ | none=>Res.no)=_;rw [z]] at o1
    have ex:=iR h2 z
    subst ex
    exact ⟨a,bs,b,rfl,rfl,bC R1.s h1,o1.here R1.s _ (.int _)⟩
  | _=>exact o1.elim
theorem zCj (ho:PEd X G o f)
  (hbase:attributeBase o "index" X.env (eval o X.env)=eval o X.env:=by rfl)
  (hfew:((backTo p3 (starEach [.Constant (.bool b) k p1] X.env)).all (fun x=>!x.1) && (backToKw p3 (keywordEach [] X.env)).all (fun x=>x.1.isSome)
   && decide ([Expr.Constant (.bool b) k p1].length+([]:List Keyword).length+(if ([]:List Keyword).isEmpty then 0 else 1) < 30))=true:=by rfl)
  (hline:(p2.endLine==p3.line)=true:=by rfl) (hs:starEach [.Constant (.bool b) k p1] X.env=(false,eval (.Constant (.bool b) k p1) X.env)::starEach [] X.env:=by rfl):
  PEd X G (.Call (.Attribute o "index" p2) [.Constant (.bool b) k p1] [] p3) (zIZ b f):=
 PE.wk (zCL F.plainAttrs_list F.slot_list_index F.type_list_index zCf ho (dE zCV gJ hs) hbase hfew hline hs rfl) fun σ H Q q=>by
  obtain ⟨ρ,Hi,R,ou⟩:=q
  refine rQ R ou fun v d Hi1 H1 e1 R1 r1 o1=>?_
  cases d with
  | lst ds=>
   obtain ⟨a,xs,rfl,h1,h2⟩:=r1.lstI
   refine ⟨.inl ⟨rfl,xs,bC R1.s h1⟩,?_⟩
   cases z:eY ds with
   | none=>rw [show zHP b (.lst ds)=.no by show (match eY ds with | some bs=>_ | none=>Res.no)=_;rw [z]] at o1;exact o1.elim
   | some bs=>
    have ex:=iR h2 z
    subst ex
    cases z2:bs.findIdx? (·==b) with
    | none=>rw [show zHP b (.lst ds)=.no by show (match eY ds with | some bs=>_ | none=>Res.no)=_;rw [z];show (match bs.findIdx? (·==b) with | some j=>Res.ok (D.int (j:Nat)) | none=>.no)=_;rw [z2]] at o1;exact o1.elim
    | some j=>
     rw [show zHP b (.lst ds)=.ok (.int (j:Nat)) by show (match eY ds with | some bs=>_ | none=>Res.no)=_;rw [z];show (match bs.findIdx? (·==b) with | some j=>Res.ok (D.int (j:Nat)) | none=>.no)=_;rw [z2]] at o1
     exact ⟨a,bs,b,j,rfl,rfl,bC R1.s h1,z2,o1.here R1.s _ (.int _)⟩
  | _=>exact o1.elim
end
section
variable {i fo:Nat} {x y:Str} {ea eb ec ct o0 o1:Expr} {body rest:List Stmt} {a b:Fv} {cmp:Tv} {sr:Sv} {p1 p2 p3 p4 p5 p6 p7 p8 p9 p10 p11 p12 p13 p14 p15 p16:Pos} {k5 k0 k1:Nat}
end
section
variable {i j1 j2 j3:Nat} {x:Str} {tg ec c1 c2 c3 esl ev o:Expr} {b2 b3:List Stmt} {t1 t2 t3:Tv} {sl:Fv} {g:Ev} {p1 p2 p3 p4 p5 p6 p7 p8 p9:Pos}
end
end
end L3
namespace L3
open PySem PySem.Spec PyProof.Rows L2
def Iv (xs:Array Keyed) (i:Nat):Int:=match xs[i]? with
 | some p=>numOf p.2
 | none=>0
theorem yQ {xs ys:Array Keyed} {i j:Nat} (h:xs[i]?=ys[j]?):Iv xs i=Iv ys j:=by unfold Iv;rw [h]
theorem zHs {xs:Array Keyed} {a d:Nat} (ha:a < xs.size) (hd:d<=a) (k:Nat):Iv (bubble xs a d) k=if k=a - d then Iv xs a else if a - d < k/\k<=a then Iv xs (k - 1) else Iv xs k:=by
 have e:=getElem?_bubble ha d hd k
 by_cases c1:k=a - d
 ·rw [if_pos c1] at e ⊢;exact yQ e
 ·rw [if_neg c1] at e ⊢
  by_cases c2:a - d < k/\k<=a
  ·rw [if_pos c2] at e ⊢;exact yQ e
  ·rw [if_neg c2] at e ⊢;exact yQ e
theorem nN {xs:Array Keyed} {a b:Nat} (hb:b<=xs.size) (k:Nat):Iv (mirror xs a b ((b - a) / 2)) k=if a<=k/\k < b then Iv xs (a+b - 1 - k) else Iv xs k:=by
 have e:=getElem?_mirror_all (i:=a) hb k
 by_cases c:a<=k/\k < b
 ·rw [if_pos c] at e ⊢;exact yQ e
 ·rw [if_neg c] at e ⊢;exact yQ e
structure Up (N:Nat) (xs:Array Keyed) (m:Nat):Prop where
 so:∀ i j,i < j->j < m->K xs i < K xs j∨K xs i=K xs j/\Iv xs i < Iv xs j
 lo:∀ i,i < m->Iv xs i < m
 hi:∀ i,m<=i->i < N->Iv xs i=i
theorem Up.le {N m:Nat} {xs:Array Keyed} (u:Up N xs m) {i j:Nat} (h:i<=j) (hj:j < m):K xs i<=K xs j:=by
 by_cases c:i=j
 ·subst c;exact Int.le_refl _
 ·rcases u.so i j (by omega) hj with z | z
  ·exact Int.le_of_lt z
  ·exact Int.le_of_eq z.1
theorem Up.on {N m n:Nat} {xs:Array Keyed} (u:Up N xs m) (hn:n<=N) (hm:m<=n) (s:SortedTo xs n):Up N xs n where
 so i j l hj:=by
  by_cases c:j < m
  ·exact u.so i j l c
  ·have e:=u.hi j (by omega) (by omega)
   have z:=s i j (by omega) hj
   have t:Iv xs i < Iv xs j:=by
    by_cases c2:i < m
    ·have:=u.lo i c2;omega
    ·have:=u.hi i (by omega) (by omega);omega
   rcases Int.lt_or_eq_of_le z with z | z
   ·exact .inl z
   ·exact .inr ⟨z,t⟩
 lo i hi:=by
  by_cases c:i < m
  ·have:=u.lo i c;omega
  ·have:=u.hi i (by omega) (by omega);omega
 hi i h1 h2:=u.hi i (by omega) h2
structure Dw (N:Nat) (xs:Array Keyed) (b:Nat):Prop where
 so:∀ i j,i < j->j < b->K xs j < K xs i∨K xs j=K xs i/\Iv xs j < Iv xs i
 lo:∀ i,i < b->Iv xs i < b
 hi:∀ i,b<=i->i < N->Iv xs i=i
structure Dq (N:Nat) (xs:Array Keyed) (b x:Nat):Prop extends Dw N xs b where
 bx:b < x
 eq:∀ i,b<=i->i < x->K xs i=K xs (x - 1)
 gt:∀ i,i < b->K xs (x - 1) < K xs i
theorem Dq.turn {N:Nat} {xs ys:Array Keyed} {b x:Nat} (d:Dq N xs b x) (hx:x<=N) (hk:∀ i,K ys i=K xs i) (hv:∀ i,Iv ys i=if b<=i/\i < x then Iv xs (b+x - 1 - i) else Iv xs i):Dw N ys x where
 so i j l hj:=by
  rw [hk,hk,hv,hv]
  by_cases c:j < b
  ·rw [if_neg (by omega),if_neg (by omega)];exact d.so i j l c
  ·rw [d.eq j (by omega) hj,if_pos (by omega),d.hi _ (by omega) (by omega)]
   by_cases c2:i < b
   ·exact .inl (d.gt i c2)
   ·rw [d.eq i (by omega) (by omega),if_pos (by omega),d.hi _ (by omega) (by omega)]
    exact .inr ⟨rfl,by omega⟩
 lo i hi:=by
  rw [hv]
  split
  ·rw [d.hi _ (by omega) (by omega)];omega
  ·have:=d.lo i (by omega);have:=d.bx;omega
 hi i h1 h2:=by rw [hv,if_neg (by omega)];exact d.hi i (by have:=d.bx;omega) h2
theorem Dw.next {N:Nat} {xs:Array Keyed} {x:Nat} (d:Dw N xs x) (hx:x < N) (h1:0 < x) (h:∀ i,i < x->K xs x < K xs i):Dq N xs x (x+1) where
 toDw:=d
 bx:=by omega
 eq i a b:=by rw [show i=x+1 - 1 by omega]
 gt i hi:=by rw [show x+1 - 1=x by omega];exact h i hi
section
variable {prog:Program} {w:World} {A:Around} {E:Value->Shared->Prop} {s:Shared} {a₀:Array Keyed}
theorem zAc {st:SortSt} {n r:Nat} {Q:Option Nat->SortSt->Prop} (ik:IntKeys a₀) (hr:r<=a₀.size) (h1:1<=n) (hn:n<=r) (sb:SBase a₀ st) (d:Dw a₀.size (arrOf st) n)
  (h:∀ m st',SBase a₀ st'->1<=m->m<=r->Up a₀.size (arrOf st') m->Q (some m) st'):wpS (model prog w) A E s (tail3 n r) Q st:=by
 unfold tail3
 have sz:n<=(arrOf st).size:=by rw [sb.size];omega
 refine wpS_bind (wpS_reverse ?_)
 have sb2:SBase a₀ (setArr st (mirror (arrOf st) 0 n ((n - 0) / 2))):=sb.setArr (mirror_perm ..)
 have up:Up a₀.size (mirror (arrOf st) 0 n ((n - 0) / 2)) n:=by
  refine ⟨fun i j l hj=>?_,fun i hi=>?_,fun i p q=>?_⟩
  ·rw [K_mirror sz,K_mirror sz,nN sz,nN sz,if_pos (by omega),if_pos (by omega),if_pos (by omega),if_pos (by omega)]
   exact d.so _ _ (by omega) (by omega)
  ·rw [nN sz,if_pos (by omega)];exact d.lo _ (by omega)
  ·rw [nN sz,if_neg (by omega)];exact d.hi i p q
 exact wpS_bind (wpS_ascLoop ik hr h1 hn sb2 (fun i j l hj=>up.le l hj) fun m m1 m2 sm _=>wpS_pure (h m _ sb2 (by omega) m2 (up.on (by omega) m1 sm)))
theorem zEH {st:SortSt} {b n r:Nat} {Q:DescSt->SortSt->Prop} (ik:IntKeys a₀) (hr:r<=a₀.size) (hn:n<=r) (hb:b+1=n) (sb:SBase a₀ st) (d:Dq a₀.size (arrOf st) b n)
  (h:∀ m q st',SBase a₀ st'->m<=r->q < m->Dq a₀.size (arrOf st') (m - (q+1)) m->Q (none,m,q) st'):wpS (model prog w) A E s (descLoop n r) Q st:=by
 unfold descLoop
 refine wpS_forRange (I:=fun x c st'=>∃ q,c=(none,x,q)/\SBase a₀ st'/\q < x/\Dq a₀.size (arrOf st') (x - (q+1)) x) ?step ?fin ⟨0,rfl,sb,by omega,by rw [show n - (0+1)=b by omega];exact d⟩
 case fin=>
  rintro c st' ⟨q,rfl,sb',hq,d'⟩
  rw [show max n r=r by omega] at hq d' ⊢
  exact h r q st' sb' (Nat.le_refl _) hq d'
 case step=>
  rintro x c st' nx xr ⟨q,rfl,sb',hq,d'⟩
  dsimp only
  have sz:x<=(arrOf st').size:=by rw [sb'.size];omega
  refine wpS_bind (wpS_ltK sb' ik (show x < _ by omega) (show x - 1 < _ by omega) ?_)
  by_cases c1:K (arrOf st') x < K (arrOf st') (x - 1)
  ·have all:∀ i,i < x->K (arrOf st') x < K (arrOf st') i:=fun i hi=>by
    by_cases c2:i < x - (q+1)
    ·exact Int.lt_trans c1 (d'.gt i c2)
    ·rw [d'.eq i (by omega) hi];exact c1
   rw [decide_eq_true c1]
   dsimp only
   rw [if_pos rfl]
   by_cases c3:q > 0
   ·rw [if_pos c3]
    have kk:=K_mirror_equal (i:=x - (q+1)) sz (fun k p1 p2=>d'.eq k p1 p2)
    refine wpS_bind (wpS_reverse (wpS_pure ⟨0,rfl,sb'.setArr (mirror_perm ..),by omega,?_⟩))
    have dw:Dw a₀.size (mirror (arrOf st') (x - (q+1)) x ((x - (x - (q+1))) / 2)) x:=d'.turn (by omega) kk (nN sz)
    exact dw.next (by omega) (by omega) fun i hi=>by rw [kk,kk];exact all i hi
   ·rw [if_neg c3]
    have q0:q=0:=by omega
    subst q0
    have dw:Dw a₀.size (arrOf st') x:=d'.turn (by omega) (fun _=>rfl) fun i=>by
     split
     ·rw [show x - (0+1)+x - 1 - i=i by omega]
     ·rfl
    exact wpS_pure ⟨0,rfl,sb',by omega,dw.next (by omega) (by omega) all⟩
  ·rw [decide_eq_false c1]
   dsimp only
   rw [if_neg (by decide)]
   refine wpS_bind (wpS_ltK sb' ik (show x - 1 < _ by omega) (show x < _ by omega) ?_)
   by_cases c4:K (arrOf st') (x - 1) < K (arrOf st') x
   ·rw [decide_eq_true c4]
    dsimp only
    rw [if_pos rfl]
    exact wpS_pure (h x q st' sb' (by omega) hq d')
   ·rw [decide_eq_false c4]
    dsimp only
    rw [if_neg (by decide)]
    have ee:K (arrOf st') x=K (arrOf st') (x - 1):=by omega
    refine wpS_pure ⟨q+1,rfl,sb',by omega,?_⟩
    rw [show x+1 - (q+1+1)=x - (q+1) by omega]
    refine ⟨d'.toDw,by omega,fun i p1 p2=>?_,fun i p1=>?_⟩
    ·rw [show x+1 - 1=x by omega]
     by_cases c5:i=x
     ·rw [c5]
     ·rw [ee];exact d'.eq i p1 (by omega)
    ·rw [show x+1 - 1=x by omega,ee];exact d'.gt i p1
theorem zBr {st:SortSt} {n r:Nat} {Q:Option Nat->SortSt->Prop} (ik:IntKeys a₀) (hr:r<=a₀.size) (hn:n+1<=r) (sb:SBase a₀ st) (d:Dq a₀.size (arrOf st) n (n+1))
  (h:∀ m st',SBase a₀ st'->1<=m->m<=r->Up a₀.size (arrOf st') m->Q (some m) st'):wpS (model prog w) A E s (descPart n r) Q st:=by
 unfold descPart
 refine wpS_bind (wpS_lift (wpAny_rule ⟨rfl,?_⟩))
 refine wpS_bind (zEH ik hr hn rfl sb d fun m q st' sb' mr hq d'=>?_)
 dsimp only
 have sz:m<=(arrOf st').size:=by rw [sb'.size];omega
 by_cases c:q > 0
 ·rw [if_pos c]
  exact wpS_bind (wpS_reverse (zAc ik hr (by omega) mr (sb'.setArr (mirror_perm ..)) (d'.turn (by omega) (K_mirror_equal sz fun k p1 p2=>d'.eq k p1 p2) (nN sz)) h))
 ·rw [if_neg c]
  have q0:q=0:=by omega
  subst q0
  refine zAc ik hr (by omega) mr sb' (d'.turn (by omega) (fun _=>rfl) fun i=>?_) h
  split
  ·rw [show m - (0+1)+m - 1 - i=i by omega]
  ·rfl
theorem zHB {st:SortSt} {r:Nat} {Q:Option Nat->SortSt->Prop} (ik:IntKeys a₀) (hr:r<=a₀.size) (h1:1<=r) (sb:SBase a₀ st) (h0:∀ i,i < a₀.size->Iv (arrOf st) i=i)
  (h:∀ m st',SBase a₀ st'->1<=m->m<=r->Up a₀.size (arrOf st') m->Q (some m) st'):wpS (model prog w) A E s (countRun' 0 r) Q st:=by
 have u1:Up a₀.size (arrOf st) 1:=⟨fun i j l hj=>by omega,fun i hi=>by have:=h0 i (by omega);omega,fun i _ z=>h0 i z⟩
 rw [countRun0_eq]
 refine wpS_bind (wpS_ascLoop ik hr (Nat.le_refl 1) h1 sb (fun i j l hj=>u1.le l hj) fun n n1 n2 sn no=>?_)
 have un:=u1.on (show n<=_ by omega) n1 sn
 dsimp only
 by_cases c:n=r
 ·rw [if_pos (by simpa using c)]
  exact wpS_pure (h n st sb n1 n2 un)
 ·rw [if_neg (by simpa using c)]
  have fl:K (arrOf st) n < K (arrOf st) (n - 1):=no.resolve_left c
  by_cases c2:n > 1
  ·rw [if_pos c2]
   refine wpS_bind (wpS_ltK sb ik (show 0 < _ by omega) (show n - 1 < _ by omega) ?_)
   by_cases c3:K (arrOf st) 0 < K (arrOf st) (n - 1)
   ·rw [decide_eq_true c3]
    dsimp only
    rw [if_pos rfl]
    exact wpS_pure (h n st sb n1 n2 un)
   ·rw [decide_eq_false c3]
    dsimp only
    rw [if_neg (by decide)]
    have sz:n<=(arrOf st).size:=by rw [sb.size];omega
    have al:∀ k,0<=k->k < n->K (arrOf st) k=K (arrOf st) (n - 1):=fun k _ hk=>by
     have p1:=sn 0 k (by omega) hk
     have p2:=sn k (n - 1) (by omega) (by omega)
     omega
    have kk:=K_mirror_equal (i:=0) sz al
    have dq:Dq a₀.size (arrOf st) 0 n:=⟨⟨fun i j l hj=>by omega,fun i hi=>by omega,fun i _ z=>h0 i z⟩,by omega,fun i p1 p2=>al i p1 p2,fun i hi=>by omega⟩
    have dw:Dw a₀.size (mirror (arrOf st) 0 n ((n - 0) / 2)) n:=dq.turn (by omega) kk (nN sz)
    refine wpS_bind (wpS_reverse (zBr ik hr (by omega) (sb.setArr (mirror_perm ..)) (dw.next (by omega) (by omega) fun i hi=>?_) h))
    rw [kk,kk,al i (by omega) hi];exact fl
  ·rw [if_neg c2]
   have n0:n=1:=by omega
   subst n0
   have dw:Dw a₀.size (arrOf st) 1:=⟨fun i j l hj=>by omega,fun i hi=>by have:=h0 i (by omega);omega,fun i _ z=>h0 i z⟩
   refine zBr ik hr (by omega) sb (dw.next (by omega) (by omega) fun i hi=>?_) h
   rw [show i=1 - 1 by omega];exact fl
theorem zGH {st:SortSt} {n m:Nat} {Q:Bool->SortSt->Prop} (ik:IntKeys a₀) (hn:n<=a₀.size) (h1:1<=m) (hm:m<=n) (sb:SBase a₀ st) (u:Up a₀.size (arrOf st) m)
  (h:∀ st',SBase a₀ st'->Up a₀.size (arrOf st') n->Q true st'):wpS (model prog w) A E s (binarySort' 0 n m) Q st:=by
 rw [binarySort'_eq]
 simp only [Nat.zero_add]
 refine wpS_bind (wpS_mono (wpS_forRange (I:=fun k c st'=>c=(none,())/\SBase a₀ st'/\Up a₀.size (arrOf st') (min k n)) (Q:=fun c st'=>c=(none,())/\SBase a₀ st'/\Up a₀.size (arrOf st') n) ?step ?fin ⟨rfl,sb,by rw [show min (max m 1) n=m by omega];exact u⟩) ?post)
 case post=>
  rintro c st' ⟨rfl,sb',u'⟩
  exact wpS_pure (h st' sb' u')
 case fin=>
  rintro c st' ⟨hc,sb',u'⟩
  rw [show min (max (max m 1) n) n=n by omega] at u'
  exact ⟨hc,sb',u'⟩
 case step=>
  rintro k c st' mk kn ⟨rfl,sb',u'⟩
  rw [show min k n=k by omega] at u'
  have ka:k < a₀.size:=by omega
  refine wpS_bind (wpS_mono (wpS_forRange
   (I:=fun x c st2=>st2=st'/\∃ l r,c=(none,l,r)/\l<=r/\r<=k/\r - l<=k - x/\(∀ i,i < l->K (arrOf st') i<=K (arrOf st') k)/\∀ i,r<=i->i < k->K (arrOf st') k < K (arrOf st') i)
   (Q:=fun c st2=>st2=st'/\∃ l r,c=(none,l,r)/\l<=k/\(∀ i,i < l->K (arrOf st') i<=K (arrOf st') k)/\∀ i,l<=i->i < k->K (arrOf st') k < K (arrOf st') i) ?js ?jf ?ji) ?jp)
  case ji=>exact ⟨rfl,0,k,rfl,by omega,by omega,by omega,fun i z=>by omega,fun i y z=>by omega⟩
  case jf=>
   rintro c st2 ⟨rfl,l,r,rfl,lr,rk,lx,f1,f2⟩
   have:l=r:=by omega
   subst this
   exact ⟨rfl,l,l,rfl,rk,f1,f2⟩
  case js=>
   rintro x c st2 _ xk ⟨rfl,l,r,rfl,lr,rk,lx,f1,f2⟩
   dsimp only
   by_cases c1:l ≥ r
   ·rw [if_pos c1]
    have:l=r:=by omega
    subst this
    exact wpS_pure ⟨rfl,l,l,rfl,rk,f1,f2⟩
   ·rw [if_neg c1]
    refine wpS_bind (wpS_ltK sb' ik ka (show (l+r) / 2 < _ by omega) ?_)
    by_cases c2:K (arrOf st2) k < K (arrOf st2) ((l+r) / 2)
    ·rw [decide_eq_true c2]
     dsimp only
     rw [if_pos rfl]
     exact wpS_pure ⟨rfl,l,(l+r) / 2,rfl,by omega,by omega,by omega,f1,fun i y z=>Int.lt_of_lt_of_le c2 (u'.le y z)⟩
    ·rw [decide_eq_false c2]
     dsimp only
     rw [if_neg (by decide)]
     exact wpS_pure ⟨rfl,(l+r) / 2+1,r,rfl,by omega,by omega,by omega,fun i y=>Int.le_trans (u'.le (show i<=(l+r) / 2 by omega) (by omega)) (Int.not_lt.mp c2),f2⟩
  case jp=>
   rintro c st2 ⟨rfl,l,r,rfl,lk,f1,f2⟩
   show wpS _ _ _ _ (do moveDown' k l;pure (ForInStep.yield (none,()))) _ _
   rw [moveDown'_eq]
   refine wpS_bind (wpS_modify (wpS_pure ⟨rfl,sb'.setArr (bubble_perm ..),?_⟩))
   rw [show min (k+1) n=k+1 by omega]
   have sz:k < (arrOf st2).size:=by rw [sb'.size];exact ka
   have ik2:=u'.hi k (Nat.le_refl _) ka
   show Up a₀.size (bubble (arrOf st2) k (k - l)) (k+1)
   have kb:=fun i=>K_bubble sz (show k - l<=k by omega) i
   have vb:=fun i=>zHs sz (show k - l<=k by omega) i
   rw [show k - (k - l)=l by omega] at kb vb
   refine ⟨fun i j ij jk=>?_,fun i z=>?_,fun i y z=>?_⟩
   ·rw [kb,kb,vb,vb]
    by_cases e1:i=l
    ·rw [if_pos e1,if_neg (show j≠l by omega),if_pos (show l < j/\j<=k by omega),if_pos e1]
     exact .inl (f2 _ (by omega) (by omega))
    ·by_cases e2:j=l
     ·rw [if_neg e1,if_neg (show ¬ (l < i/\i<=k) by omega),if_pos e2,if_neg e1,if_neg (show ¬ (l < i/\i<=k) by omega),if_pos e2]
      have t:=u'.lo i (by omega)
      rcases Int.lt_or_eq_of_le (f1 i (by omega)) with z | z
      ·exact .inl z
      ·exact .inr ⟨z,by omega⟩
     ·rw [if_neg e1,if_neg e2,if_neg e1,if_neg e2]
      by_cases g1:l < i/\i<=k
      ·rw [if_pos g1,if_pos g1,if_pos (show l < j/\j<=k by omega),if_pos (show l < j/\j<=k by omega)]
       exact u'.so _ _ (by omega) (by omega)
      ·rw [if_neg g1,if_neg g1]
       by_cases g2:l < j/\j<=k
       ·rw [if_pos g2,if_pos g2];exact u'.so _ _ (by omega) (by omega)
       ·rw [if_neg g2,if_neg g2];exact u'.so _ _ ij (by omega)
   ·rw [vb]
    split
    ·omega
    ·split
     ·have:=u'.lo (i - 1) (by omega);omega
     ·have:=u'.lo i (by omega);omega
   ·rw [vb,if_neg (by omega),if_neg (by omega)];exact u'.hi i (by omega) z
theorem zFh {st:SortSt} {Q:Unit->SortSt->Prop} (ik:IntKeys a₀) (sb:SBase a₀ st) (h2:2<=a₀.size) (h64:a₀.size < 64) (h0:∀ i,i < a₀.size->Iv (arrOf st) i=i)
  (h:∀ st',(arrOf st').Perm a₀->failedOf st'=none->Up a₀.size (arrOf st') a₀.size->Q () st'):wpS (model prog w) A E s sortRuns' Q st:=by
 rw [sortRuns'_eq]
 refine wpS_bind (wpS_get ?_)
 dsimp only
 have mr:minRun' a₀.size a₀.size 0=a₀.size:=by
  obtain ⟨f,hf⟩:∃ f,a₀.size=f+1:=⟨a₀.size - 1,by omega⟩
  have z:minRun' (f+1) a₀.size 0=a₀.size:=by rw [minRun'_succ,if_pos h64,Nat.add_zero]
  rw [<-hf] at z;exact z
 have fin:∀ st':SortSt,SBase a₀ st'->Up a₀.size (arrOf st') a₀.size->(fun st=>(arrOf st).Perm a₀/\failedOf st=none/\pendingOf st=#[(0,a₀.size,0)]/\Up a₀.size (arrOf st) a₀.size) (setPending st' ((pendingOf st').push (0,a₀.size,0))):=fun st' b u=>
  ⟨b.perm,b.failed,by show (pendingOf st').push _=_;rw [b.pend];rfl,u⟩
 simp only [sb.size,mr]
 refine wpS_bind (wpS_mono (wpS_forRange
  (I:=fun x c st'=>(x=0/\c=(none,0)/\st'=st)∨(1<=x/\c=(none,a₀.size)/\(arrOf st').Perm a₀/\failedOf st'=none/\pendingOf st'=#[(0,a₀.size,0)]/\Up a₀.size (arrOf st') a₀.size))
  (Q:=fun c st'=>c=(none,a₀.size)/\(arrOf st').Perm a₀/\failedOf st'=none/\pendingOf st'=#[(0,a₀.size,0)]/\Up a₀.size (arrOf st') a₀.size) ?step ?fin (.inl ⟨rfl,rfl,rfl⟩)) ?post)
 case fin=>
  rintro c st' (⟨z,_,_⟩ | ⟨_,r⟩)
  ·omega
  ·exact r
 case step=>
  rintro x c st' _ hx (⟨rfl,rfl,rfl⟩ | ⟨_,rfl,r⟩)
  ·dsimp only
   rw [if_neg (by omega)]
   simp only [Nat.sub_zero,Nat.min_self,Nat.zero_add]
   refine wpS_bind (zHB ik (Nat.le_refl _) (by omega) sb h0 fun m st2 sb2 m1 m2 u2=>?_)
   dsimp only
   by_cases c:m < a₀.size
   ·rw [if_pos c]
    refine wpS_bind (wpS_lift (wpAny_rule ⟨rfl,?_⟩))
    refine wpS_bind (zGH ik (Nat.le_refl _) m1 m2 sb2 u2 fun st3 sb3 u3=>?_)
    rw [Bool.not_true,if_neg Bool.false_ne_true]
    refine wpS_bind (wpS_get ?_)
    rw [show (pendingOf st3).back?=none by rw [sb3.pend];rfl]
    dsimp only
    exact wpS_bind (wpS_modify (wpS_pure (.inr ⟨by omega,rfl,fin st3 sb3 u3⟩)))
   ·rw [if_neg c]
    have mm:m=a₀.size:=by omega
    subst mm
    refine wpS_bind (wpS_get ?_)
    rw [show (pendingOf st2).back?=none by rw [sb2.pend];rfl]
    dsimp only
    exact wpS_bind (wpS_modify (wpS_pure (.inr ⟨by omega,rfl,fin st2 sb2 u2⟩)))
  ·dsimp only
   rw [if_pos (Nat.le_refl _)]
   exact wpS_pure ⟨rfl,r⟩
 case post=>
  rintro c st' ⟨rfl,p1,p2,p3,p4⟩
  dsimp only
  refine wpS_bind (wpS_mono (wpS_forRange (I:=fun _ c st2=>st2=st'/\c=(none,())) (Q:=fun c st2=>st2=st'/\c=(none,())) ?_ (fun _ _ z=>z) ⟨rfl,rfl⟩) ?_)
  ·rintro x c st2 _ _ ⟨rfl,rfl⟩
   refine wpS_bind (wpS_get ?_)
   rw [if_pos (by rw [p3];exact Nat.le_refl 1)]
   exact wpS_pure ⟨rfl,rfl⟩
  ·rintro c st2 ⟨rfl,rfl⟩
   exact wpS_pure (h _ p1 p2 p4)
end
end L3
namespace L3
open PySem PySem.Spec PyProof.Rows L2
unseal PEd PEf PTd PWd PAd PSd cI POd PGd eA PId PSx eN PTs PCd PCf
section
variable {prog:Program} {w:World} {A:Around} {E:Value->Shared->Prop} {s:Shared}
theorem rM {r:Addr} {a b c:Int} {t u v:Tok} {n:Nat} {R:List Value->Shared->Prop} (hh:A.handled=none) (hr:IsRange s.heap r a b c t u v) (hsmall:Builtin.Range.small a b c=true) (hn:Builtin.Range.rangeSize a b c=n) (hlen:n<=2^24)
  (h:∀ h' tk acc,(∀ b o,s.heap.get? b=some o->h'.get? b=some o)->s.heap.objs.size<=h'.objs.size->ItemsOf (fun i v=>∃ t,v=.int (a+i * c) t) acc n->R acc.toList { s with heap:=h',toks:=tk }):
  wpAny (model prog w) A (collect (.ref r)) R E s:=by
 unfold collect
 refine wpAny_bind (wpAny_runValue (codeAny_builtin entry_proto_collect' ?_))
 rw [Around.under_plainId PySem.F.plain_proto_collect _]
 show wpAny _ A.in1 (newList [] >>= fun l=>again (.builtin "list.__iadd__" ⟨[l,.ref r],[]⟩)) _ _ s
 refine wpAny_bind (wpAny_newObj_type ?_)
 refine wpAny_pure ⟨plainId_quiet PySem.F.plain_list_iadd _,codeAny_builtin entry_list_iadd' ?_⟩
 rw [Around.under_plainId PySem.F.plain_list_iadd _]
 have hS₁:(s.heap.push { cls:=.type "list", data:=.seq ([]:List Value).toArray }).get? s.heap.objs.size=some { cls:=.type "list", data:=.seq #[] }:=Heap.get?_push_size _ rfl
 show wpAny _ A.in1 (Builtin.List.listExtendWith (.ref s.heap.objs.size) (.ref r) (.ref s.heap.objs.size)) _ _ _
 have key:=wpAny_extend_range (prog:=prog) (w:=w) (A:=A) (s:={ s with heap:=s.heap.push { cls:=.type "list", data:=.seq ([]:List Value).toArray } })
  (R:=fun (q:Result) (s':Shared)=>∃ (h':Heap) (tk:Nat) (acc':Array Value) (c':Nat),q=.ok (.ret (.ref s.heap.objs.size))/\s'={ s with heap:=h',toks:=tk }/\
   (∀ b o,s.heap.get? b=some o->h'.get? b=some o)/\h'.get? s.heap.objs.size=some { cls:=.type "list", dict:=none,data:=.seq acc' c',slots:=#[] }/\ItemsOf (fun i v=>∃ t,v=.int (a+i * c) t) acc' n)
  hh (Heap.get?_push_of_some _ hr) hsmall hn hlen s.heap.objs.size (.ref s.heap.objs.size) 0 hS₁
  (fun h' tk acc' c' hk hS' hacc=>⟨h',tk,acc',c',rfl,rfl,fun b o e=>hk b o (Nat.ne_of_lt (Heap.lt_size e)) (Heap.get?_push_of_some _ e),hS',hacc⟩)
 refine wpAny_mono key (fun fin s' x=>?_) fun e s' x=>?_
 ·cases fin with
  | done f=>
   obtain ⟨h',tk,acc',c',e,rfl,hk,hS',hacc⟩:=x
   cases e
   show wpAny _ A (load s.heap.objs.size >>= _) _ _ _
   refine wpAny_bind (wpAny_load hS' ?_)
   exact wpAny_pure (h h' tk acc' hk (Nat.le_of_lt (Heap.lt_size hS')) hacc)
  | again c₁=>
   refine ⟨x.1,codeAny_mono x.2 fun q s₂ y=>?_⟩
   obtain ⟨h',tk,acc',c',rfl,rfl,hk,hS',hacc⟩:=y
   show wpAny _ A (load s.heap.objs.size >>= _) _ _ _
   refine wpAny_bind (wpAny_load hS' ?_)
   exact wpAny_pure (h h' tk acc' hk (Nat.le_of_lt (Heap.lt_size hS')) hacc)
 ·obtain ⟨_,_,_,_,e',_⟩:=x
  cases e'
end
section
variable {X:Cx} {pins:List (Addr×Obj)} {σ:St} {H:Hp} {s:Shared} {A:Around} {E:Value->Shared->Prop} {a kS:Addr} {vs:List Value} {kz:List Int} {keys:Array Value} {e e1:Nat} {P:PySem.Fin->Shared->Prop}
theorem jX {h':Heap} {tk:Nat} (f:jR X pins H a) (I:Inv X pins σ H s) (sb:Heap.SameBut a s.heap h'):Inv X pins σ H { s with heap:=h',toks:=tk }:=by
 obtain ⟨f0,f1,f2,f3,f4,f5⟩:=f
 exact I.turned (fun b o hb e=>(sb.2 b hb).trans e) f0 f1 f3 f4 f5
def KsS (kz:List Int) (vs out:List Value):Prop:=∃ ps:List (Int×Value),ps.Perm (kz.zip vs)/\out=ps.map Prod.snd/\ps.Pairwise fun p q=>p.1 < q.1∨p.1=q.1/\numOf p.2 < numOf q.2
theorem zFl {xs:Array Keyed} {n:Nat} (hk:IntsAre keys.toList kz) (hp:xs.Perm (keys.zip vs.toArray)) (up:Up n xs xs.size):KsS kz vs (xs.map (·.2)).toList:=by
 have hl:xs.toList.Perm (keys.toList.zip vs):=by
  have z:=Array.perm_iff_toList_perm.mp hp
  rwa [Array.toList_zip,List.toList_toArray] at z
 refine ⟨xs.toList.map fun p=>(numOf p.1,p.2),?_,?_,?_⟩
 ·have z:=hl.map (fun p=>(numOf p.1,p.2))
  rw [<-hk.nums,List.zip_map_left]
  exact z
 ·rw [Array.toList_map,List.map_map];rfl
 ·rw [List.pairwise_map,List.pairwise_iff_getElem]
  intro i j hi hj hij
  rw [Array.length_toList] at hi hj
  have z:=up.so i j hij hj
  rw [K_eq hi,K_eq hj] at z
  have iv:∀ k (h:k < xs.size),Iv xs k=numOf xs[k].2:=fun k h=>by unfold Iv;rw [getElem?_pos xs k h]
  rw [iv i hi,iv j hj] at z
  exact z
theorem zDy (hsz:keys.size=vs.length) (hv:∀ (j:Nat) (v:Value),vs[j]?=some v->∃ t,v=.int j t) (i:Nat) (hi:i < (keys.zip vs.toArray).size):Iv (keys.zip vs.toArray) i=i:=by
 have h2:i < vs.length:=by rw [Array.size_zip,hsz,List.size_toArray,Nat.min_self] at hi;exact hi
 obtain ⟨t,ht⟩:=hv i _ (List.getElem?_eq_getElem h2)
 unfold Iv
 rw [getElem?_pos _ i hi]
 show numOf ((keys.zip vs.toArray)[i]).2=_
 rw [Array.getElem_zip]
 show numOf (vs.toArray[i])=_
 rw [List.getElem_toArray,ht]
 rfl
theorem zJ {st:SortSt} (I:Inv X pins σ H s) (fa:jR X pins H a) (fk:jR X pins H kS) (hka:kS≠a) (nk:s.heap.get? kS=some (seqObj "list" keys e)) (na:s.heap.get? a=some (seqObj "list" #[] e1))
  (hk:IntsAre keys.toList kz) (hlen:kz.length=vs.length) (h64:vs.length < 64) (hp:(arrOf st).Perm (keys.zip vs.toArray)) {n:Nat} (hs:Up n (arrOf st) (arrOf st).size) (hfl:failedOf st=none)
  (h:∀ s' out c,Inv X pins σ H s'->s'.heap.get? a=some (seqObj "list" out c)->KsS kz vs out.toList->P (.done (.ret .none)) s'):
  wpAny (model X.prog X.w) A (ksk_tail a false e1 (.ref kS) st) P E s:=by
 have hsz:keys.size=vs.length:=by
  have h1:=hk.length
  rw [Array.length_toList] at h1
  omega
 have hsz2:(arrOf st).size=vs.length:=by rw [hp.size_eq,Array.size_zip,hsz,List.size_toArray,Nat.min_self]
 have hout:((arrOf st).map (·.2)).size=vs.length:=by rw [Array.size_map];exact hsz2
 have s1:=Heap.SameBut.update s.heap kS (Obj.mapSeq fun _=>(#[]:Array Value))
 have na1:(s.heap.update kS (Obj.mapSeq fun _=>(#[]:Array Value))).get? a=some (seqObj "list" #[] e1):=(s1.2 a hka.symm).trans na
 have s2:=Heap.SameBut.update (s.heap.update kS (Obj.mapSeq fun _=>(#[]:Array Value))) a (Obj.mapSeq fun _=>(arrOf st).map (·.2))
 obtain ⟨c2,hc2⟩:∃ c2,((s.heap.update kS (Obj.mapSeq fun _=>(#[]:Array Value))).update a (Obj.mapSeq fun _=>(arrOf st).map (·.2))).get? a=some (seqObj "list" ((arrOf st).map (·.2)) c2):=
  ⟨_,get?_update_seq na1 fun _=>(arrOf st).map (·.2)⟩
 unfold ksk_tail
 try dsimp only
 refine wpAny_bind (listUpdate_at nk rfl ?_ (by rw [hsz,sizeLine_eq];omega) (Nat.zero_le _))
 refine wpAny_bind (wpAny_letGo ?_)
 refine wpAny_bind (seqEpoch_at na1 rfl ?_)
 refine wpAny_bind (listUpdate_at na1 rfl ?_ (Nat.zero_le _) (by simp only [Bool.false_eq_true,if_false];exact Nat.le_trans (Nat.le_of_eq hout) (by rw [sizeLine_eq];omega)))
 rw [hfl]
 simp only [bne_self_eq_false,Bool.false_eq_true,if_false]
 have I1:Inv X pins σ H { s with heap:=s.heap.update kS (Obj.mapSeq fun _=>(#[]:Array Value)) }:=jX fk (tk:=s.toks) I s1
 have I2:Inv X pins σ H { s with heap:=(s.heap.update kS (Obj.mapSeq fun _=>(#[]:Array Value))).update a (Obj.mapSeq fun _=>(arrOf st).map (·.2)) }:=(by have z:=jX (tk:=s.toks) fa I1 s2;exact z)
 exact wpAny_pure (h _ _ c2 I2 hc2 (zFl hk hp hs))
theorem zGy (I:Inv X pins σ H s) (fa:jR X pins H a) (fk:jR X pins H kS) (hka:kS≠a) (nk:s.heap.get? kS=some (seqObj "list" keys e)) (na:s.heap.get? a=some (seqObj "list" #[] e1))
  (hk:IntsAre keys.toList kz) (hlen:kz.length=vs.length) (h64:vs.length < 64)
  (hv:∀ (j:Nat) (v:Value),vs[j]?=some v->∃ t,v=.int j t)
  (h:∀ s' out c,Inv X pins σ H s'->s'.heap.get? a=some (seqObj "list" out c)->KsS kz vs out.toList->P (.done (.ret .none)) s'):
  wpAny (model X.prog X.w) A (ksk_end a false vs.toArray e1 (.ref kS) keys) P E s:=by
 have hsz:keys.size=vs.length:=by
  have h1:=hk.length
  rw [Array.length_toList] at h1
  omega
 have hzs:(keys.zip vs.toArray).size=vs.length:=by rw [Array.size_zip,hsz,List.size_toArray,Nat.min_self]
 unfold ksk_end
 try dsimp only
 simp only [Bool.false_eq_true,if_false]
 by_cases h2:vs.toArray.size < 2
 ·rw [if_pos h2,if_pos h2]
  refine wpAny_bind (wpAny_pure ?_)
  rw [StateT.run_pure]
  refine wpAny_bind (wpAny_pure ?_)
  try dsimp only
  rw [List.size_toArray] at h2
  refine zJ (st:=SortSt.mk' general' (keys.zip vs.toArray) #[] 7 none) (n:=0) I fa fk hka nk na hk hlen h64 (Array.Perm.refl _) ⟨fun i j l hj=>?_,fun i hi=>?_,fun i _ z=>by omega⟩ rfl h
  ·have hj2:j < (keys.zip vs.toArray).size:=hj
   rw [hzs] at hj2
   omega
  ·have z:=zDy hsz hv i hi
   show Iv (keys.zip vs.toArray) i < _
   rw [z]
   exact_mod_cast hi
 ·rw [if_neg h2,if_neg h2]
  rw [List.size_toArray] at h2
  rw [ksk_kind hk (by rw [hsz];omega)]
  refine wpAny_bind (wpAny_pure ?_)
  refine wpAny_bind (wpAny_mono (zFh (a₀:=keys.zip vs.toArray) (st:=SortSt.mk' oneType' (keys.zip vs.toArray) #[] 7 none)
   (Q:=fun _ st'=>(arrOf st').Perm (keys.zip vs.toArray)/\failedOf st'=none/\Up (keys.zip vs.toArray).size (arrOf st') (keys.zip vs.toArray).size)
   (ksk_intKeys hk) ⟨Array.Perm.refl _,rfl,rfl,rfl⟩ (by rw [hzs];omega) (by rw [hzs];exact h64) (zDy hsz hv) fun st' a1 a2 a3=>⟨a1,a2,a3⟩) ?_ fun _ _ e=>e)
  rintro ⟨⟨⟩,st'⟩ s' ⟨rfl,hp,hf,hs⟩
  try dsimp only
  exact zJ (n:=(keys.zip vs.toArray).size) I fa fk hka nk na hk hlen h64 hp (by rw [hp.size_eq];exact hs) hf h
theorem zDV {f:Value} {e0:Nat} (I:Inv X pins σ H s) (fa:jR X pins H a) (fk:jR X pins H kS) (hka:kS≠a) (nk:s.heap.get? kS=some (seqObj "list" #[] e0)) (na:s.heap.get? a=some (seqObj "list" #[] e1))
  (hlen:kz.length=vs.length) (h64:vs.length < 64)
  (hv:∀ (j:Nat) (v:Value),vs[j]?=some v->∃ t,v=.int j t)
  (turn:∀ (i:Nat) (v:Value) (k:Int),vs[i]?=some v->kz[i]?=some k->∀ (s':Shared) (pl:List (Addr×Obj)),Inv X (pins++pl) σ H s'->
   wpAny (model X.prog X.w) A (call f [v]) (fun u s''=>(∃ t,u=.int k t)/\Inv X (pins++pl) σ H s'') (fun _ _=>False) s')
  (h:∀ s' out c,Inv X pins σ H s'->s'.heap.get? a=some (seqObj "list" out c)->KsS kz vs out.toList->P (.done (.ret .none)) s'):
  wpAny (model X.prog X.w) A (ksk_rest a f false vs.toArray e1 (.ref kS)) P E s:=by
 unfold ksk_rest
 refine wpAny_bind (wpAny_rule ?_)
 first
  | rw [List.forIn_toArray]
  | (rw [<-Array.forIn_toList];simp only [List.toList_toArray])
  | rw [<-Array.forIn_toList]
 refine wpAny_bind (ksk_fold (fun i s'=>∃ kA e,Inv X pins σ H s'/\s'.heap.get? kS=some (seqObj "list" kA e)/\s'.heap.get? a=some (seqObj "list" #[] e1)/\IntsAre kA.toList (kz.take i)) vs 0 s
  ⟨#[],e0,I,nk,na,by simpa using IntsAre.nil⟩ ?step ?done)
 case step=>
  rintro j x s' hx ⟨kA,e,I',nk',na',hk⟩
  simp only [Nat.zero_add] at hk ⊢
  have hj:j < vs.length:=(List.getElem?_eq_some_iff.mp hx).1
  obtain ⟨k,hkj⟩:∃ k,kz[j]?=some k:=⟨_,List.getElem?_eq_getElem (by omega)⟩
  have hz:kA.size<=vs.length:=by
   have h1:=hk.length
   rw [Array.length_toList,List.length_take] at h1
   omega
  have pin:∀ b∈[kS,a],∃ o,s'.heap.get? b=some o/\∀ v,o.data≠.cell v:=fun b hb=>by
   rcases List.mem_cons.mp hb with rfl | hb
   ·exact ⟨_,nk',fun v z=>by have z':Data.seq _ _=Data.cell v:=z;cases z'⟩
   ·rw [List.mem_singleton.mp hb];exact ⟨_,na',fun v z=>by have z':Data.seq _ _=Data.cell v:=z;cases z'⟩
  have Ip:Inv X (pins++lK [kS,a] s'.heap) σ H s':=I'.pinned (fun b hb=>by
   rcases List.mem_cons.mp hb with rfl | hb
   ·exact fk
   ·rw [List.mem_singleton.mp hb];exact fa) pin
  refine wpAny_bind (wpAny_attempt (wpAny_mono (turn j x k hx hkj s' _ Ip) (fun v s'' he=>?_) fun _ _ hF=>hF.elim))
  obtain ⟨⟨t2,rfl⟩,I2p⟩:=he
  try dsimp only
  have nk2:s''.heap.get? kS=some (seqObj "list" kA e):=(I2p.pin _ (List.mem_append_right _ (List.mem_append_right _ (cN (b:=kS) (by simp) nk')))).1
  have na2:s''.heap.get? a=some (seqObj "list" #[] e1):=(I2p.pin _ (List.mem_append_right _ (List.mem_append_right _ (cN (b:=a) (by simp) na')))).1
  have I2:Inv X pins σ H s'':=I2p.unpinned
  have s1:=Heap.SameBut.update s''.heap kS (Obj.mapSeq (·.push (.int k t2)))
  obtain ⟨c2,hc2⟩:∃ c2,(s''.heap.update kS (Obj.mapSeq (·.push (.int k t2)))).get? kS=some (seqObj "list" (kA.push (.int k t2)) c2):=⟨_,get?_update_seq nk2 (·.push (.int k t2))⟩
  have ek:kz.take (j+1)=kz.take j++[k]:=by rw [List.take_add_one,hkj];simp
  have ea:(kA.push (Value.int k t2)).toList=kA.toList++[Value.int k t2]:=by simp
  refine wpAny_bind (listUpdate_at nk2 rfl ?_ (by rw [sizeLine_eq];omega) (Nat.le_trans (Nat.le_of_eq (Array.size_push ..)) (by rw [sizeLine_eq];omega)))
  exact wpAny_pure ⟨rfl,kA.push (.int k t2),c2,jX fk (tk:=s''.toks) I2 s1,hc2,(s1.2 a hka.symm).trans na2,by rw [ea,ek];exact ksk_snoc hk⟩
 case done=>
  rintro s' ⟨kA,e,I',nk',na',hk⟩
  have hk':IntsAre kA.toList kz:=by
   have e3:kz.take (0+vs.length)=kz:=List.take_of_length_le (by omega)
   rw [e3] at hk
   exact hk
  try dsimp only
  refine wpAny_bind (listItems_at nk' rfl ?_)
  exact zGy I' fa fk hka nk' na' hk' hlen h64 hv h
def iV (v:Value):Nat:=(numOf v).toNat
theorem zDR {out:List Value} (hlen:kz.length=vs.length) (hv:∀ (j:Nat) (v:Value),vs[j]?=some v->∃ t,v=.int j t) (h:KsS kz vs out):eX kz (out.map iV)/\cO ((out.map iV).map fun i:Nat=>V.int (i:Int)) out:=by
 obtain ⟨ps,hp,ho,hs⟩:=h
 have at':∀ p,p∈kz.zip vs->∃ (j:Nat) (t:Tok),p.2=.int j t/\kz[j]?=some p.1:=fun p hm=>by
  obtain ⟨j,hj,e⟩:=List.mem_iff_getElem.mp hm
  rw [List.length_zip] at hj
  rw [List.getElem_zip] at e
  obtain ⟨t,ht⟩:=hv j (vs[j]'(by omega)) (List.getElem?_eq_getElem _)
  refine ⟨j,t,by rw [<-e];exact ht,by rw [<-e];exact List.getElem?_eq_getElem _⟩
 have n1:∀ (j:Nat) (t:Tok),iV (.int j t)=j:=fun j t=>by unfold iV;show (Int.toNat (j:Int))=j;rfl
 have hvs:vs.map iV=List.range kz.length:=by
  refine List.ext_getElem? fun j=>?_
  rw [List.getElem?_map]
  by_cases hj:j < vs.length
  ·obtain ⟨t,ht⟩:=hv j _ (List.getElem?_eq_getElem hj)
   rw [List.getElem?_eq_getElem hj,ht,List.getElem?_range (by omega)]
   show some (iV _)=_
   rw [n1]
  ·rw [List.getElem?_eq_none (by omega),List.getElem?_eq_none (by rw [List.length_range];omega)];rfl
 subst ho
 refine ⟨⟨?_,?_,?_⟩,?_⟩
 ·have h1:((ps.map Prod.snd).map iV).Perm (((kz.zip vs).map Prod.snd).map iV):=(hp.map _).map _
  rw [List.map_snd_zip (by omega),hvs] at h1
  exact h1
 ·rw [List.map_map,List.pairwise_map]
  refine List.Pairwise.imp_of_mem (fun {p q} hm hq hr=>?_) hs
  have hr':p.1<=q.1:=by rcases hr with z | z<;>omega
  obtain ⟨i,t,e1,e2⟩:=at' p (hp.mem_iff.mp hm)
  obtain ⟨j,u,e3,e4⟩:=at' q (hp.mem_iff.mp hq)
  show kz.getD (iV p.2) 0<=kz.getD (iV q.2) 0
  rw [e1,e3,n1,n1,List.getD_eq_getElem?_getD,List.getD_eq_getElem?_getD,e2,e4]
  exact hr'
 ·rw [List.map_map,List.pairwise_map]
  refine List.Pairwise.imp_of_mem (fun {p q} hm hq hr=>?_) hs
  obtain ⟨i,t,e1,e2⟩:=at' p (hp.mem_iff.mp hm)
  obtain ⟨j,u,e3,e4⟩:=at' q (hp.mem_iff.mp hq)
  show kz.getD (iV p.2) 0=kz.getD (iV q.2) 0->iV p.2 < iV q.2
  rw [e1,e3] at hr ⊢
  rw [n1,n1,List.getD_eq_getElem?_getD,List.getD_eq_getElem?_getD,e2,e4]
  intro z
  have z':p.1=q.1:=z
  rcases hr with y | y
  ·omega
  ·have:((i:Nat):Int) < (j:Nat):=y.2
   omega
 ·have go:∀ l:List Value,(∀ v∈l,∃ (j:Nat) (t:Tok),v=.int j t)->cO ((l.map iV).map fun i:Nat=>V.int (i:Int)) l:=by
   intro l
   induction l with
   | nil=>intro _;exact .nil
   | cons v r ih=>
    intro hl
    obtain ⟨j,t,rfl⟩:=hl v (.head _)
    exact .cons ⟨t,by rw [n1]⟩ (ih fun u hu=>hl u (.tail _ hu))
  refine go _ fun v hv'=>?_
  obtain ⟨p,hm,rfl⟩:=List.mem_map.mp hv'
  obtain ⟨j,t,e1,_⟩:=at' p (hp.mem_iff.mp hm)
  exact ⟨j,t,e1⟩
theorem zS {r q:Addr} {n:Nat} {t u v:Tok} {Q:Value->Shared->Prop} (hc:X.calm=true) (I:Inv X pins σ H s) (hr:IsRange s.heap r 0 n 1 t u v) (h64:n < 64) (hkz:kz.length=n)
  (turn:∀ (j:Nat) (tk:Tok) (k:Int),kz[j]?=some k->∀ (s':Shared) (pl:List (Addr×Obj)),Inv X (pins++pl) σ H s'->
   wpAny (model X.prog X.w) X.A.in1.in1 (call (.ref q) [.int j tk]) (fun u s''=>(∃ t,u=.int k t)/\Inv X (pins++pl) σ H s'') (fun _ _=>False) s')
  (h:∀ D s' out c π,Inv X pins σ H s'->jR X pins H D->s.heap.objs.size<=D->s'.heap.get? D=some (seqObj "list" out c)->eX kz π->cO (π.map fun i:Nat=>V.int (i:Int)) out.toList->Q (.ref D) s'):
  wpAny (model X.prog X.w) X.A (call (.builtin "sorted") [.ref r] [(Str.ofString "key", .ref q)]) Q E s:=by
 refine call_function_entry_kw kind_sorted plain_sorted entry_sorted (ksk_s1 _ _) ?_
 unfold Builtin.«sorted»
 refine wpAny_bind (m:=checkCount "sorted" 1 1 _) (wpAny_pure ?_)
 refine wpAny_bind (rM (n:=n) (A:=X.A.in1) (I.ok.hd hc) hr (small_one (by omega) (by omega) (by omega) (by omega)) (by rw [rangeSize_one];split<;>omega) (by omega) fun h1 tk acc hk hsz hacc=>?_)
 have hl:acc.toList.length=n:=by rw [Array.length_toList];exact hacc.1
 refine wpAny_bind (wpAny_newList ?_ (by rw [hl,sizeLine_eq];omega))
 have I1:Inv X pins σ H { s with heap:=h1,toks:=tk }:=I.kept hk
 have fa:jR X pins H h1.objs.size:=I1.fpOk (Nat.le_refl _) (I1.hok.fresh (Nat.le_refl _))
 have I2:Inv X pins σ H { s with heap:=h1.push (seqObj "list" acc.toList.toArray 0),toks:=tk }:=I1.kept (t':=tk) fun b o e=>Heap.get?_push_of_some _ e
 have hoL:(h1.push (seqObj "list" acc.toList.toArray 0)).get? h1.objs.size=some (seqObj "list" acc.toList.toArray 0):=Heap.get?_push_size _ rfl
 show wpAny _ _ _ _ _ { s with heap:=h1.push (seqObj "list" acc.toList.toArray 0),toks:=tk }
 refine wpAny_bind (wpAny_holding (wpAny_call_entry_kw slot_list_sort ⟨_,hoL,rfl⟩ entry_list_sort ?body (ksk_l1 _ _)))
 case body=>
  show wpAny (model X.prog X.w) X.A.in1.in1 (Builtin.«list.sort» ⟨[.ref h1.objs.size],[(Str.ofString "key", .ref q)]⟩) _ _ _
  rw [ksk_t1]
  have s3:=Heap.SameBut.update (h1.push (seqObj "list" acc.toList.toArray 0)) h1.objs.size (Obj.mapSeq fun _=>(#[]:Array Value))
  obtain ⟨e1,ho1⟩:∃ e1,((h1.push (seqObj "list" acc.toList.toArray 0)).update h1.objs.size (Obj.mapSeq fun _=>(#[]:Array Value))).get? h1.objs.size=some (seqObj "list" #[] e1):=⟨_,get?_update_seq hoL fun _=>#[]⟩
  have I3:Inv X pins σ H { s with heap:=(h1.push (seqObj "list" acc.toList.toArray 0)).update h1.objs.size (Obj.mapSeq fun _=>(#[]:Array Value)),toks:=tk }:=(by have z:=jX (tk:=tk) fa I2 s3;exact z)
  generalize hg3:(h1.push (seqObj "list" acc.toList.toArray 0)).update h1.objs.size (Obj.mapSeq fun _=>(#[]:Array Value))=h3 at s3 ho1 I3
  unfold ksk_tree
  refine wpAny_bind (listItems_at hoL rfl ?_)
  refine wpAny_bind (listUpdate_at hoL rfl ?_ (by rw [List.size_toArray,sizeLine_eq];omega) (Nat.zero_le _))
  show wpAny _ _ _ _ _ { s with heap:=(h1.push (seqObj "list" acc.toList.toArray 0)).update h1.objs.size (Obj.mapSeq fun _=>(#[]:Array Value)),toks:=tk }
  rw [hg3]
  refine wpAny_bind (seqEpoch_at ho1 rfl ?_)
  refine wpAny_bind (wpAny_newTuple ?_ (by show acc.toList.toArray.toList.length<=_;rw [sizeLine_eq,List.toList_toArray];omega))
  refine wpAny_bind (wpAny_newList ?_ (Nat.zero_le _))
  refine wpAny_holding ?_
  have I4:Inv X pins σ H { s with heap:=h3.push (seqObj "tuple" acc.toList.toArray 0),toks:=tk }:=I3.kept (t':=tk) fun b o e=>Heap.get?_push_of_some _ e
  have fk:jR X pins H (h3.push (seqObj "tuple" acc.toList.toArray 0)).objs.size:=I4.fpOk (Nat.le_refl _) (I4.hok.fresh (Nat.le_refl _))
  have I5:Inv X pins σ H { s with heap:=(h3.push (seqObj "tuple" acc.toList.toArray 0)).push (seqObj "list" #[] 0),toks:=tk }:=I4.kept (t':=tk) fun b o e=>Heap.get?_push_of_some _ e
  have ho4:(h3.push (seqObj "tuple" acc.toList.toArray 0)).get? h1.objs.size=some (seqObj "list" #[] e1):=Heap.get?_push_of_some _ ho1
  have hvv:∀ (j:Nat) (v:Value),acc.toList[j]?=some v->∃ t,v=.int j t:=fun j v' hj=>by
   obtain ⟨tk',rfl⟩:=hacc.2 j v' (by rw [<-Array.getElem?_toList];exact hj)
   exact ⟨tk',by congr 1;omega⟩
  refine zDV (vs:=acc.toList) (kz:=kz) (e0:=0) I5 fa fk (Nat.ne_of_gt (Heap.lt_size ho4)) (Heap.get?_push_size _ rfl) (Heap.get?_push_of_some _ ho4) (by rw [hkz,hl]) (by rw [hl];exact h64) hvv (fun i v' k hi hk' s' pl Ip=>?_) fun s' out c I' ho' ko=>?_
  ·obtain ⟨tk',rfl⟩:=hacc.2 i v' (by rw [<-Array.getElem?_toList];exact hi)
   have e3:(0:Int)+(i:Int) * 1=(i:Int):=by omega
   rw [e3]
   exact turn i tk' k hk' s' pl Ip
  ·obtain ⟨hπ,hV⟩:=zDR (by rw [hkz,hl]) hvv ko
   exact ⟨_,rfl,wpAny_pure ⟨_,rfl,h _ s' out c _ I' fa hsz ho' hπ hV⟩⟩
end
end L3
namespace L3
open PySem PySem.Spec PyProof.Rows L2 PySem.W
unseal PEd PEf PTd PWd PAd PSd cI POd PGd eA PId PSx eN PTs PCd PCf
def zJH:CXT:=fun _ _ _ _ _ _=>False
def cxL (P:Program) (w:World) (K:PySem.W.Frag) (mg:Str->Option Value) (base:Heap) (N:List Str) (qual:Str) (scope:Scope) (f:Addr) (cd:Value) (cl:List (Str×Addr)) (A:Around) (outer:List Env) (s:Shared) (H:Hp):Cx where
 prog:=P
 w:=w
 K:=K
 mg:=mg
 base:=base
 A:=A.deeper (envX qual scope s.heap.objs.size f cd cl)
 N:=N
 s₀:=s
 H₀:=H
 env:=envX qual scope s.heap.objs.size f cd cl
 outer:=outer
 stack:=envX qual scope s.heap.objs.size f cd cl::outer
 ex:=[]
 fn:=fun _=>false
 calm:=true
 pn:=[]
 xe:=fun _ _=>False
theorem zFk {P:Program} {w:World} {K:PySem.W.Frag} {mg:Str->Option Value} {base:Heap} {N:List Str} {qual name:Str} {scope:Scope} {f c':Addr} {cl:List (Str×Addr)} {A:Around} {outer:List Env} {s:Shared} {H:Hp} {params:Arguments} {body:Expr} {pm ctv u:Value} {p:Str} {σ:St} {Q:VK} {E:XK} {t:TE}
  (hd:A.handled=none) (hdp:A.depth < recursionLimit) (e0:Env0 P w K mg base A outer s H) (ho:s.heap.get? f=some (kla_obj name qual params body scope cl pm c' ctv)) (hcd:s.heap.CodeRec (.ref c') qual)
  (hbind:bindArgs (kla_fn name qual params body scope cl pm (.ref c') ctv) ⟨[u],[]⟩=pure [(p,u)]) (hloc:scope.names.lookup p=some .local)
  (hco:scope.isCoroutine=false) (hgen:scope.isGenerator=false) (hk:scope.kind=.function) (hcell:∀ x∈scope.names,x.2≠.cell)
  (hfree:∀ x,scope.names.lookup x=some .free->∃ c,cl.lookup x=some c) (hinj:∀ x y c,cl.lookup x=some c->cl.lookup y=some c->x=y)
  (hcl:∀ x c,cl.lookup x=some c->(∃ v,s.heap.IsCell c v)/\H c=none) (hlen:σ.length=N.length)
  (hσ:∀ (i:Nat) (x:Str) (v:V),N[i]?=some x->σ[i]?=some (some v)->(x=p/\cD v u)∨(scope.names.lookup x=some .free/\∃ c u',cl.lookup x=some c/\s.heap.IsCell c (some u')/\cD v u'))
  (hb:PE (cxL P w K mg base N qual scope f (.ref c') cl A outer s H) body t) (hq:t σ H Q):
  codeAny (model P w) A (.call (.ref f) ⟨[u],[]⟩) (CR zJH outer P w H s Q E) s:=by
 have lim:s.heap.NoLimit:=e0.mod.nolimit.keeps fun b o e=>(e0.bs b o e).1
 refine kla_callFunE hdp ho rfl hco hgen rfl hcd ?_
 rw [hbind]
 refine wpAny_pure (wpAny_newFunctionEnv hcell (fun y hy=>by rw [List.mem_singleton.mp hy];exact hloc) (fun h₁ hns hsb=>⟨lim.fresh _ hsb,?_⟩) hk)
 have hk₁:∀ b o,s.heap.get? b=some o->h₁.get? b=some o:=fun b o e=>hsb.extBut b o (Nat.ne_of_lt (Heap.lt_size e)) (Heap.get?_push_of_some _ e)
 have noA:∀ b:Addr,b∉(cxL P w K mg base N qual scope f (.ref c') cl A outer s H).ex:=fun b z=>absurd (show b∈([]:List Addr) from z) (by simp)
 have I:Inv (cxL P w K mg base N qual scope f (.ref c') cl A outer s H) [] σ H { s with heap:=h₁,toks:=s.toks+1 }:=by
  refine ⟨⟨e0.mod,hk,rfl,rfl,Nat.le_refl _,hinj,fun y hy=>?_,fun y c z _=>?_,fun _=>hd,Around.frames_deeper e0.frames,.inr ⟨rfl,rfl⟩,fun b z=>absurd z (noA b),e0.bs,e0.bsz,fun b _ _=>noA b,fun b z=>absurd z (noA b),e0.funs,e0.frf⟩,
   rfl,e0.bare,Un.kept hk₁,⟨_,hns,fun i y v h1 h2 h3=>?_⟩,fun y c h=>?_,e0.hok.fresh (Nat.le_refl _),fun y c h=>(hcl y c h).2,fun p hp=>absurd (show p∈([]:List (Addr×Obj)) from hp) (by simp),e0.hok.kept hk₁,hlen⟩
  ·have hy:scope.names.lookup y=some .cell∨scope.names.lookup y=some .free:=hy
   rcases hy with hy | hy
   ·exact absurd rfl (hcell _ (PySem.mem_of_lookup hy))
   ·exact hfree y hy
  ·cases z
  ·rcases hσ i y v h1 h2 with ⟨rfl,r⟩ | ⟨hf,c,u',h4,⟨o,h5,h6⟩,r⟩
   ·exact ⟨u,r,.inl ⟨hloc,by simp [List.lookup]⟩⟩
   ·exact ⟨u',r,.inr ⟨.inr hf,c,h4,o,hk₁ _ _ h5,h6⟩⟩
  ·obtain ⟨⟨v,o,h5,h6⟩,_⟩:=hcl y c h
   exact ⟨v,o,hk₁ _ _ h5,h6⟩
 refine kla_codeExpr (wpAny_mono (hb [] _ σ H Q I hq) (fun v s' z=>?_) fun e s' z=>False.elim z)
 obtain ⟨x,H',J,r,q⟩:=z
 exact ⟨x,H',J.os,J.bare,J.base,J.hok,r,q⟩
theorem zCM {l:List Value} {a b:Int} {c:Value} (h:TriplesOk l):TriplesOk (l++[rawInt a,rawInt b,c]):=TriplesOk_snoc a b c l h
theorem xV {pos q:Pos} {c x:Value} (l:List Value) (h:TriplesOk l) (e:codeAmong q (l++[rawInt pos.line,rawInt pos.col,c])=some x):codeAmong q l=some x∨x=c:=by
 fun_induction TriplesOk l with
 | case1=>
  simp only [List.nil_append,codeAmong,rawInt] at e
  split at e
  ·exact .inr (Option.some.inj e).symm
  ·cases e
 | case2 a t b u y rest ih=>
  simp only [List.cons_append,codeAmong] at e ⊢
  split at e
  ·rename_i hc;rw [if_pos hc];exact .inl e
  ·rename_i hc;rw [if_neg hc];exact ih h e
 | case3 l h1 h2=>exact h.elim
def BMn (base:Heap) (mg:Str->Option Value):Prop:=∃ bm ob,mg "__builtins__" = some (.ref bm)/\bm≠builtinsNs/\base.get? bm=some ob/\ob.cls=.type "module" /\ ob.dict=some builtinsNs/\ob.data=.plain
section
variable {X:Cx} {pins:List (Addr×Obj)} {σ:St} {H:Hp} {s:Shared} {P c c':Addr}
theorem zCc {ps more:Array Value} {h':Heap} {tk:Nat} {oc:Obj} (I:Inv X pins σ H s) (hP:H P=some (.tbl ps)) (hx:Heap.ExtBut P s.heap h') (hge:s.heap.objs.size<=c') (hc:h'.get? c'=some oc) (hP':h'.get? P=some { cls:=.none,data:=.fields (ps++more) }):
  Inv X pins σ (upd (upd H P (.tbl (ps++more))) c' (.frz oc (.own 0))) { s with heap:=h',toks:=tk }:=by
 have nP:∀ {b:Addr},H b=none->b≠P:=fun e z=>by rw [z,hP] at e;cases e
 have cF:H c'=none:=I.hok.fresh hge
 have nc:∀ {b:Addr} {o:Obj},s.heap.get? b=some o->b≠c':=fun e=>Nat.ne_of_lt (Nat.lt_of_lt_of_le (Heap.lt_size e) hge)
 have hPc:P≠c':=aR hP cF
 have up:∀ {b:Addr},b≠P->b≠c'->upd (upd H P (.tbl (ps++more))) c' (.frz oc (.own 0)) b=H b:=fun h1 h2=>by rw [aO h2,aO h1]
 have upP:upd (upd H P (.tbl (ps++more))) c' (.frz oc (.own 0)) P=some (.tbl (ps++more)):=by rw [aO hPc,aH]
 have kd:∀ {b:Addr} {o:HO},H b=some o->(∀ qs,o≠.tbl qs)->upd (upd H P (.tbl (ps++more))) c' (.frz oc (.own 0)) b=some o:=fun {b o} e hn=>by
  rw [up (fun z=>by rw [z,hP] at e;exact hn ps (Option.some.inj e).symm) (aR e cF)];exact e
 refine I.un ⟨fun b o e n _ _=>hx b o (nP n) e,fun b o e n _ _=>⟨o.slots,hx b o (nP n) e⟩,fun b o e n _=>by rw [up (nP n) (nc e)];exact n,fun b o e _=>?_,fun b xs e=>kd e fun qs z=>(by cases z),fun b o u e=>kd e fun qs z=>(by cases z),fun b qs e=>?_⟩ fun b u e=>?_
 ·by_cases hb:b=P
  ·subst hb;exact ⟨_,hP'⟩
  ·exact ⟨o,hx b o hb e⟩
 ·by_cases hb:b=P
  ·subst hb
   rw [hP] at e;cases e
   exact ⟨more,upP⟩
  ·exact ⟨#[],by rw [up hb (aR e cF),e];simp⟩
 ·by_cases h2:b=c'
  ·subst h2
   rw [aH] at e;cases e
   exact ⟨hc,oc,hc⟩
  ·by_cases h1:b=P
   ·subst h1
    rw [upP] at e;cases e
    exact hP'
   ·rw [up h1 h2] at e
    refine (I.hok b u e).stay (fun d v hd q=>hx d v (fun z=>?_) q) (fun d q=>kd q fun qs z=>(by cases z)) fun d xs q=>kd q fun qs z=>(by cases z)
    rcases hd with rfl | hd
    ·exact h1 z
    ·rw [z,hP] at hd;cases hd
theorem zAi {ps:Array Value} {oc:Obj} {pos:Pos} {vs:Array Value} {t:Tok} (hP:H P=some (.tbl ps)) (cF:H c'=none) (hd:oc.data=.fields vs) (hv:vs[1]?=some (.str lU t)):
  Keep H (upd (upd H P (.tbl (ps++#[rawInt pos.line,rawInt pos.col,.ref c']))) c' (.frz oc (.own 0))):=by
 have hPc:P≠c':=aR hP cF
 have upP:upd (upd H P (.tbl (ps++#[rawInt pos.line,rawInt pos.col,.ref c']))) c' (.frz oc (.own 0)) P=some (.tbl (ps++#[rawInt pos.line,rawInt pos.col,.ref c'])):=by rw [aO hPc,aH]
 have kd:∀ {b:Addr} {o:HO},H b=some o->b≠P->upd (upd H P (.tbl (ps++#[rawInt pos.line,rawInt pos.col,.ref c']))) c' (.frz oc (.own 0)) b=some o:=fun {b o} e hn=>by
  rw [aO (aR e cF),aO hn];exact e
 refine ⟨fun b o e=>?_,fun Q T=>?_⟩
 ·by_cases hb:b=P
  ·subst hb
   rw [hP] at e;cases e
   exact .inr ⟨_,_,rfl,upP⟩
  ·exact .inl (kd e hb)
 ·obtain ⟨qs,e,ht,k⟩:=T
  have old:∀ (q:Pos) (cv:Value),codeAmong q qs.toList=some cv->∃ c oc' vs t u,cv=.ref c/\upd (upd H P (.tbl (ps++#[rawInt pos.line,rawInt pos.col,.ref c']))) c' (.frz oc (.own 0)) c=some (.frz oc' u)/\oc'.data=.fields vs/\vs[1]?=some (.str lU t):=fun q cv z=>by
   obtain ⟨c,oc',vs',t',u,r1,r2,r3⟩:=k q cv z
   exact ⟨c,oc',vs',t',u,r1,kd r2 (fun w=>by rw [w,hP] at r2;cases r2),r3⟩
  by_cases hb:Q=P
  ·subst hb
   rw [hP] at e;cases e
   have el:(ps++#[rawInt pos.line,rawInt pos.col,.ref c']).toList=ps.toList++[rawInt pos.line,rawInt pos.col,.ref c']:=by simp
   refine ⟨_,upP,by rw [el];exact zCM ht,fun q cv z=>?_⟩
   rw [el] at z
   rcases xV _ ht z with z | z
   ·exact old q cv z
   ·exact ⟨c',oc,vs,t,_,z,aH,hd,hv⟩
  ·exact ⟨qs,kd e hb,ht,old⟩
theorem zCU {params:Arguments} {body:Expr} {scope:Scope} {pos:Pos} {clos:List (Str×Addr)} {M:Model} {A:Around} {E:Value->Shared->Prop} {Q:Value->Shared->Prop} (I:Inv X pins σ H s) (tb:sD P H) (hC:∀ h,X.K.In h->CodeHd h c P) (hcode:X.env.code=.ref c) (hq:X.env.qual ++ "<lambda>" = lU) (hB:BMn X.base X.mg)
  (hcl:closureFor scope X.env=pure clos) (hdef:defaultsOf params X.env=([],[]))
  (h:∀ f c' ctv oc vs t u H' s',Inv X pins σ H' s'->Keep H H'->(∀ b o,H b=some o->b≠P->H' b=some o)->jR X pins H' f->s.heap.objs.size<=f->s'.heap.get? f=some (kla_obj "<lambda>" lU params body scope clos ((X.mg "__name__").getD .none) c' ctv)->
   H' c'=some (.frz oc u)->oc.data=.fields vs->vs[1]?=some (.str lU t)->Q (.ref f) s'):
  wpAny M A (eval (.Lambda params body scope pos) X.env) Q E s:=by
 obtain ⟨ps,hP,ht,hk⟩:=id tb
 have hPo:s.heap.get? P=some (tabObj ps):=I.hok P _ hP
 have hg:s.heap.Ns mainGlobals X.mg:=I.mod.glob.keeps I.bk
 have hgP:mainGlobals≠P:=fun z=>by
  obtain ⟨o,es,ep,e,_⟩:=I.mod.glob
  have:=(I.bs _ _ e).2
  rw [z,hP] at this;cases this
 have hb:s.heap.BuiltinsAt X.mg P:=by
  obtain ⟨bm,ob,b1,b2,b3,b4,b5,b6⟩:=hB
  refine ⟨bm,ob,b1,b2,fun z=>?_,fun z=>?_,(I.bs _ _ b3).1,b4,b5,b6⟩
  ·obtain ⟨o,es,ep,e,d,_⟩:=I.mod.glob
   rw [z,e] at b3;cases b3;rw [d] at b6;cases b6
  ·have:=(I.bs _ _ b3).2
   rw [z,hP] at this;cases this
 refine kla_eval hdef ?_
 rw [hq]
 cases hf:codeAmong pos ps.toList with
 | some cv=>
  obtain ⟨c',oc,vs,t,u,rfl,r1,r2,r3⟩:=hk pos cv hf
  refine kla_makeFunctionHit hcl I.ok.glob hg hcode (hC _ I.kIn) hPo ht hf hb fun ctv h' tk hkk hsz=>?_
  have I1:Inv X pins σ H { s with heap:=h',toks:=tk }:=I.kept hkk
  have I2:Inv X pins σ H { s with heap:=h'.push (kla_obj "<lambda>" lU params body scope clos ((X.mg "__name__").getD .none) c' ctv),toks:=tk }:=I1.kept (t':=tk) fun b o e=>Heap.get?_push_of_some _ e
  exact h _ c' ctv oc vs t u H _ I2 (Keep.refl _) (fun b o e _=>e) (I1.fpOk (Nat.le_refl _) (I1.hok.fresh (Nat.le_refl _))) hsz (Heap.get?_push_size _ rfl) r1 r2 r3
 | none=>
  refine kla_makeFunction hcl I.ok.glob hg hcode (hC _ I.kIn) hPo ht hf hgP hb fun c' ctv h' tk hx hge hlt hrec htb=>?_
  obtain ⟨c₂,oc,vs,t,e2,hoc,hd,hv⟩:=hrec
  cases e2
  have I1:=zCc (tk:=tk) I hP hx hge hoc htb
  have I2:=I1.kept (t':=tk) (h':=h'.push (kla_obj "<lambda>" lU params body scope clos ((X.mg "__name__").getD .none) c' ctv)) fun b o e=>Heap.get?_push_of_some _ e
  have cF:H c'=none:=I.hok.fresh hge
  exact h _ c' ctv oc vs t _ _ _ I2 (zAi hP cF hd hv) (fun b o e hb=>by rw [aO (aR e cF),aO hb];exact e) (I1.fpOk (Nat.le_refl _) (I1.hok.fresh (Nat.le_refl _))) (Nat.le_of_lt (Nat.lt_of_le_of_lt hge hlt)) (Heap.get?_push_size _ rfl) aH hd hv
end
end L3
namespace L3
open PySem PySem.Spec PyProof.Rows L2 PySem.W
unseal PEd PEf PTd PWd PAd PSd cI POd PGd eA PId PSx eN PTs PCd PCf
theorem tP {K:PySem.W.Frag} {H:Hp}:∀ π:List Nat,IsDs K H (π.map fun i:Nat=>V.int (i:Int)) (iB π)
 | []=>.nil
 | n::ns=>.cons (.int n) (tP ns)
def uG (p:Pos):Arguments:={ posonlyargs:=[],args:=[{ arg := "spot", annotation:=none,pos:=p }],vararg:=none,kwonlyargs:=[],kw_defaults:=[],kwarg:=none,defaults:=[] }
def fZ:Scope:={ kind:=.function,names:=[(PySem.Str.ofString "spot", .local),(PySem.Str.ofString "bottom", .free),(PySem.Str.ofString "some", .free)],isGenerator:=false,isCoroutine:=false,more:=[] }
section
variable {X:Cx} {p1 p2 p3 p4 p5 p6 p7 p8 p9 pa pb pc pd pe pf pg ph pi pj:Pos}
theorem zCW {b k:Int} {a:Addr} {xs:List V} {rows:List D} {d:D} {j:Nat} {Hi H:Hp} {Q:VK} {σ:St} (hN:X.N=(["spot", "some", "bottom"]:List Str)) (hsc:X.env.scope=fZ) {pz:Pos}
  (hσ:σ=[some (.int j),some (.ref a),some (.int b)]) (hq:SqL X.K Hi a xs∨SqT X.K Hi a xs) (hs:IsDs X.K Hi xs rows) (sm:Same Hi H) (hd:rows[j]?=some d) (hk:zBN b d=.ok k) (q:Q (.int k) H):
  ∃ t,PE X (.BinOp (.Subscript (.Subscript (.Name "some" p1) (.Name "spot" p2) p3) (.Constant (.int 0) 0 p4) p5) .Mult
   (.BinOp (.Name "bottom" p6) .FloorDiv (.Subscript (.Subscript (.Name "some" p7) (.Name "spot" p8) p9) (.Constant (.int 1) 0 pa) pb) pc) pz) t/\t σ H Q:=by
 have v0:PE X (.Name "spot" p2) (uY 0):=nQ (by rw [hN];rfl) (by rw [hsc];exact .inl (by decide +kernel))
 have v0':PE X (.Name "spot" p8) (uY 0):=nQ (by rw [hN];rfl) (by rw [hsc];exact .inl (by decide +kernel))
 have v1:PE X (.Name "some" p1) (uY 1):=nQ (by rw [hN];rfl) (by rw [hsc];exact .inr (.inr (by decide +kernel)))
 have v1':PE X (.Name "some" p7) (uY 1):=nQ (by rw [hN];rfl) (by rw [hsc];exact .inr (.inr (by decide +kernel)))
 have v2:PE X (.Name "bottom" p6) (uY 2):=nQ (by rw [hN];rfl) (by rw [hsc];exact .inr (.inr (by decide +kernel)))
 refine ⟨_,zBz cU (xX cS (xX cS v1 v0 (fun _ _=>rfl)) zBo (fun _ _=>rfl)) (zBz bM v2 (xX cS (xX cS v1' v0' (fun _ _=>rfl)) zBo (fun _ _=>rfl))),?_⟩
 obtain ⟨t,c,rfl,h1,h2,rfl⟩:=zDT hk
 obtain ⟨v,hv,r⟩:=hs.at hd
 obtain ⟨ra,ys,rfl,h3,h4⟩:=r.tupI
 obtain ⟨u1,u2,rfl,r1,r2⟩:=h4.two
 have e1:=r1.intI
 have e2:=r2.intI
 subst e1 e2
 have S3:=bY sm h3
 subst hσ
 have row:∀ Q':VK,Q' (.ref ra) H->(zHV X.K (.ref a) (.int j) H Q'∨zIa X.K (.ref a) (.int j) H Q'):=fun Q' q'=>by
  rcases hq with hq | hq
  ·exact .inl ⟨a,xs,j,.ref ra,rfl,rfl,bC sm hq,uT hv,q'⟩
  ·exact .inr ⟨a,xs,j,.ref ra,rfl,rfl,bY sm hq,uT hv,q'⟩
 refine ⟨.ref a,rfl,.int j,rfl,row _ (.inr ⟨ra,_,0,.int t,rfl,rfl,S3,rfl,?_⟩)⟩
 refine ⟨.int b,rfl,.ref a,rfl,.int j,rfl,row _ (.inr ⟨ra,_,1,.int c,rfl,rfl,S3,rfl,?_⟩)⟩
 exact ⟨b,c,rfl,rfl,h1,t,b.fdiv c,rfl,rfl,h2,q⟩
theorem zHw {a:Expr} {ta:TA} {p pos:Pos} (hg:Gl X "range") (hm:X.mg "range" = none) (ha:PA X [a] ta) (hs:starEach [a] X.env=[(false,eval a X.env)]:=by rfl):
  PE X (.Call (.Name "range" p) [a] [] pos) (fun σ H Q=>ta σ H fun vs H1=>∃ n:Nat,vs=[.int n]/\∀ r,H1 r=none->Q (.ref r) (upd H1 r (.rng 0 n))):=by
 intro pins s σ H Q I h
 refine wpAny_Call_Name_kw (nB I hg hm boot_range (PyProof.Rows.callWith_type1 (thn (ha pos pins s σ H _ I h) fun us s1 ⟨vs,H1,I1,r1,q1⟩=>?_) hs rfl))
 obtain ⟨n,e,q⟩:=q1
 subst e
 obtain ⟨u,rfl,t,rfl⟩:=pD r1
 refine call_range_1 ⟨.ref s1.heap.objs.size,_,I1.laid (fun b o e=>Heap.get?_push_of_some _ e) (Nat.le_refl _) ?_,rfl,q _ I1.fresh⟩
 exact ⟨_,_,_,Heap.get?_push_size _ rfl⟩
structure RankCx (X:Cx) (P c:Addr):Prop where
 calm:X.calm=true
 dp:X.A.depth < recursionLimit
 n0:X.N[0]?=some ("some" : Str)
 n1:X.N[1]?=some ("bottom" : Str)
 k0:X.env.kindOf "some" = some .cell
 k1:X.env.kindOf "bottom" = some .cell
 code:X.env.code=.ref c
 hd:∀ h,X.K.In h->CodeHd h c P
 qual:X.env.qual ++ "<lambda>" = lU
 bm:BMn X.base X.mg
 clo:∃ cs cb,closureFor fZ X.env=pure [(("some" : Str),cs),(("bottom" : Str),cb)]/\X.env.cells.lookup ("some" : Str)=some cs/\X.env.cells.lookup ("bottom" : Str)=some cb
 gS:Gl X "sorted"
 mS:X.mg "sorted" = none
 gR:Gl X "range"
 mR:X.mg "range" = none
 gL:Gl X "len"
 mL:X.mg "len" = none
def zHH (X:Cx) (P:Addr):TE:=fun σ H Q=>∃ Hi a xs rows b kz,σ[0]?=some (some (.ref a))/\σ[1]?=some (some (.int b))/\(SqL X.K Hi a xs∨SqT X.K Hi a xs)/\IsDs X.K Hi xs rows/\Same Hi H/\iY b rows=.ok kz/\kz.length < 64/\sD P H/\Hi P=none/\
 ∀ π r Hi' H',eX kz π->Ext Hi H Hi' H'->zAJ X.K H Hi' H' r (iB π)->Q (.ref r) H'
theorem wG {pins:List (Addr×Obj)} {σ:St} {H:Hp} {s:Shared} {i:Nat} {x:Str} {v:V} {c:Addr} (I:Inv X pins σ H s) (hi:X.N[i]?=some x) (hv:σ[i]?=some (some v)) (hk:X.env.kindOf x=some .cell) (hc:X.env.cells.lookup x=some c):∃ u,cD v u/\s.heap.IsCell c (some u):=by
 obtain ⟨m,hn,hl⟩:=I.loc
 obtain ⟨u,r,l⟩:=hl i x v hi hv (.inr (.inl hk))
 refine ⟨u,r,?_⟩
 rcases l with ⟨z,_⟩ | ⟨_,c',z,q⟩
 ·rw [hk] at z;cases z
 ·rw [hc] at z;cases z;exact q
theorem zFy {P c:Addr} (R:RankCx X P c) {pk pl pm pn:Pos} (hs1:starEach [.Name "some" p3] X.env=(false,eval (.Name "some" p3) X.env)::starEach [] X.env:=by rfl)
  (hs2:starEach [.Call (.Name "len" p2) [.Name "some" p3] [] p4] X.env=[(false,eval (.Call (.Name "len" p2) [.Name "some" p3] [] p4) X.env)]:=by rfl)
  (hs3:starEach [.Call (.Name "range" p1) [.Call (.Name "len" p2) [.Name "some" p3] [] p4] [] p5] X.env=(false,eval (.Call (.Name "range" p1) [.Call (.Name "len" p2) [.Name "some" p3] [] p4] [] p5) X.env)::starEach [] X.env:=by rfl):
  PE X (.Call (.Name "sorted" pk) [.Call (.Name "range" p1) [.Call (.Name "len" p2) [.Name "some" p3] [] p4] [] p5] [⟨some "key", .Lambda (uG p6) (.BinOp (.Subscript (.Subscript (.Name "some" p7) (.Name "spot" p8) p9) (.Constant (.int 0) 0 pa) pb) .Mult
   (.BinOp (.Name "bottom" pc) .FloorDiv (.Subscript (.Subscript (.Name "some" pd) (.Name "spot" pe) pf) (.Constant (.int 1) 0 pg) ph) pi) pj) fZ pl,pm⟩] pn) (zHH X P):=by
 intro pins s σ H Q I h
 obtain ⟨Hi,a,xs,rows,b,kz,e0,e1,hq,hds,sm,hkz,h64,tb,hiP,q⟩:=h
 obtain ⟨hl1,hl2⟩:=rL hkz
 have hlen:xs.length=kz.length:=by rw [hds.length,hl1]
 refine wpAny_Call_Name_kw (nB I R.gS R.mS boot_sorted ?_ (by decide) (by decide))
 have vS:PE X (.Name "some" p3) (uY 0):=nQ R.n0 (.inr (.inl R.k0))
 have pR:=zHw (p:=p1) (pos:=p5) R.gR R.mR (dE (iJ (p:=p2) (pos:=p4) bF R.gL R.mL boot_len (dE vS gJ hs1) (by decide) (by decide) hs1) gJ (by rw [hs2];rfl)) hs2
 refine callWith_kw (thn ((dE pR gJ hs3) pn pins s σ H (fun vs H1=>∃ r,vs=[.ref r]/\H r=none/\H1=upd H r (.rng 0 kz.length)) I ?reads) fun us s1 ⟨vs,H1,I1,r1,q1⟩=>?_) (by rw [hs3];rfl) (by rw [hs3];rfl)
 case reads=>
  refine ⟨.ref a,e0,a,xs,rfl,hq.imp (bC sm) (bY sm),xs.length,rfl,fun r hr=>⟨r,rfl,hr,by rw [hlen]⟩⟩
 obtain ⟨r,rfl,hr,rfl⟩:=q1
 obtain ⟨u,rfl,ru⟩:=pD r1
 cases ru
 obtain ⟨cs,cb,hcl,hcs,hcb⟩:=R.clo
 have x1:Ext Hi H Hi (upd H r (.rng 0 kz.length)):=Ext.newF sm hr
 refine kws_cons (zCU I1 (x1.h.t P tb) R.hd R.code R.qual R.bm hcl rfl fun f c' ctv oc vs t u H3 s3 I3 hkeep hsame hf hfs hfo hc1 hc2 hc3=>kws_nil ?_)
 have x2:Ext Hi H Hi H3:=x1.trans ⟨Same.refl _,hkeep,fun b o e=>hsame b o (x1.s _ _ e) (fun z=>by rw [z,hiP] at e;cases e),fun b e z=>absurd e z⟩
 have hr3:H3 r=some (.rng 0 kz.length):=hkeep.at aH
 obtain ⟨t1,t2,t3,hrg⟩:=I3.hok r _ hr3
 have I3p:Inv X (pins++[(f,kla_obj "<lambda>" lU (uG p6) _ fZ [("some", cs),("bottom", cb)] ((X.mg "__name__").getD .none) c' ctv)]) σ H3 s3:=I3.pins_of fun p hp=>by
  rcases List.mem_append.mp hp with hp | hp
  ·exact I3.pin p (List.mem_append_right _ hp)
  ·rw [List.mem_singleton.mp hp]
   exact ⟨hfo,hf.1,hf.2.1,hf.2.2.1,fun v z=>by have z':Data.func _=Data.cell v:=z;cases z'⟩
 refine zS (kz:=kz) R.calm I3p hrg h64 rfl (fun j tk k hj s' pl Ip=>?_) fun D s' out c2 π I' fD hDs hD hπ hV=>?_
 ·obtain ⟨d,hd,hk⟩:=hl2 j k hj
  have hfo':=(Ip.pin _ (List.mem_append_right _ (List.mem_append_left _ (List.mem_append_right _ (List.mem_singleton.mpr rfl))))).1
  obtain ⟨u0,r0,ce0⟩:=wG Ip R.n0 e0 R.k0 hcs
  obtain ⟨u1,r1,ce1⟩:=wG Ip R.n1 e1 R.k1 hcb
  have look:∀ {x:Str} {c:Addr},List.lookup x [(("some" : Str),cs),(("bottom" : Str),cb)]=some c->(x = "some" /\ c=cs)∨(x = "bottom" /\ c=cb):=fun {x c} z=>by
   have z':=PySem.mem_of_lookup z
   rcases List.mem_cons.mp z' with z' | z'
   ·cases z';exact .inl ⟨rfl,rfl⟩
   ·cases List.mem_singleton.mp z';exact .inr ⟨rfl,rfl⟩
  have hne:cs≠cb:=fun z=>by
   have:=Ip.ok.inj _ _ _ hcs (z ▸ hcb)
   exact absurd this (by decide)
  have lam:∃ t,PE (cxL X.prog X.w X.K X.mg X.base ["spot", "some", "bottom"] lU fZ f (.ref c') [("some", cs),("bottom", cb)] X.A.in1.in1 X.stack s' H3) _ t/\t [some (.int j),some (.ref a),some (.int b)] H3 (fun v H'=>v=.int k/\H'=H3):=
   zCW (p1:=p7) (p2:=p8) (p3:=p9) (p4:=pa) (p5:=pb) (p6:=pc) (p7:=pd) (p8:=pe) (p9:=pf) (pa:=pg) (pb:=ph) (pc:=pi) (pz:=pj) rfl rfl rfl hq hds x2.s hd hk ⟨rfl,rfl⟩
  obtain ⟨tt,hb,hqq⟩:=lam
  refine wpAny_call (codeAny_mono (zFk (E:=fun _ _ _=>False) (p := "spot") (Ip.ok.hd R.calm) R.dp Ip.env0.in1.in1 hfo' ⟨c',oc,vs,t,rfl,(Ip.hok c' _ hc1).1,hc2,hc3⟩ rfl (by decide +kernel) rfl rfl rfl (by decide +kernel) (fun x hx=>?_) (fun x y c z1 z2=>?_) (fun x c z=>?_) rfl (fun i x v z1 z2=>?_) hb hqq) fun res s'' hres=>?_)
  ·have hx':=PySem.mem_of_lookup hx
   rcases List.mem_cons.mp hx' with z | hx'
   ·cases z
   ·rcases List.mem_cons.mp hx' with z | hx'
    ·cases z;exact ⟨cb,rfl⟩
    ·cases List.mem_singleton.mp hx';exact ⟨cs,rfl⟩
  ·rcases look z1 with ⟨rfl,rfl⟩ | ⟨rfl,rfl⟩<;>rcases look z2 with ⟨rfl,w⟩ | ⟨rfl,w⟩
   ·rfl
   ·exact absurd w hne
   ·exact absurd w.symm hne
   ·rfl
  ·rcases look z with ⟨rfl,rfl⟩ | ⟨rfl,rfl⟩
   ·exact ⟨⟨_,ce0⟩,Ip.freeC _ _ hcs⟩
   ·exact ⟨⟨_,ce1⟩,Ip.freeC _ _ hcb⟩
  ·match i,z1,z2 with
   | 0,z1,z2=>cases z1;cases z2;exact .inl ⟨rfl,tk,rfl⟩
   | 1,z1,z2=>cases z1;cases z2;exact .inr ⟨by decide +kernel,cs,u0,rfl,ce0,r0⟩
   | 2,z1,z2=>cases z1;cases z2;exact .inr ⟨by decide +kernel,cb,u1,rfl,ce1,r1⟩
   | i+3,z1,z2=>simp at z2
  ·cases res with
   | error ev=>exact False.elim hres
   | ok fl=>
    cases fl with
    | ret u=>
     obtain ⟨v,H',J,rv,rfl,rfl⟩:=Ip.after hres
     obtain ⟨t',rfl⟩:=rv
     exact ⟨⟨t',rfl⟩,J⟩
    | next=>exact False.elim hres
    | brk=>exact False.elim hres
    | cont=>exact False.elim hres
 ·have I'':Inv X pins σ H3 s':=I'.unpinned
  obtain ⟨f0,f1,f2,f3,f4,f5⟩:=fD
  have h0:X.s₀.heap.get? D=none:=Heap.get?_none_of_le (Nat.le_trans I3.sz hDs)
  have hl:=hV.length
  have okL:gO X.prog X.w (upd H3 D (.lst (π.map fun i:Nat=>V.int (i:Int)))) s'.heap D (.lst (π.map fun i:Nat=>V.int (i:Int))):=by
   refine ⟨?_,out.toList,c2,hV,by rw [Array.toArray_toList];exact hD⟩
   rw [List.length_map,hπ.1.length_eq,List.length_range,sizeLine_eq];omega
  have I4:=I''.track f0 h0 f1 f4 (fun p hp=>f5 p (by
   rcases List.mem_append.mp hp with hp | hp
   ·exact List.mem_append_left _ hp
   ·exact List.mem_append_right _ (List.mem_append_left _ hp))) okL
  refine ⟨.ref D,_,I4,rfl,q π D Hi _ hπ (x2.trans (Ext.newF x2.s f0)) ⟨x2.h.none f0,x2.s.none f0,_,aH,tP π⟩⟩
end
end L3
namespace L3
open PySem PySem.Spec PyProof.Rows L2 PySem.W
unseal PEd PEf PTd PWd PAd PSd cI POd PGd eA PId PSx eN PTs PCd PCf
def spR (K:PySem.W.Frag) (mg:Str->Option Value) (kf:List D->Res (List Int)):Sp:=fun vs H Q _=>vs.length=1/\∃ Bi ds,TB K mg Bi H/\Same Bi H/\IsDs K Bi vs ds/\match kf ds with
 | .ok kz=>∀ π a Hi' H',eX kz π->Ext Bi H Hi' H'->zAJ K H Hi' H' a (iB π)->Q (.ref a) H'
 | _=>False
structure CanR (P:Program) (w:World) (K:PySem.W.Frag) (mg:Str->Option Value) (base:Heap) (k:Nat) (kf:List D->Res (List Int)):Prop where
 ex:∃ f fd,FnOk P w K mg base (CX1 P w) k f fd ["some"] (spR K mg kf)/\sO K fd ["some"] []/\PySem.W.keepIn K (.ref f)=true/\mg "ranked" = some (.ref f)
theorem CanR.mono {P:Program} {w:World} {K:PySem.W.Frag} {mg:Str->Option Value} {base:Heap} {j k:Nat} {kf:List D->Res (List Int)} (c:CanR P w K mg base j kf) (h:j<=k):CanR P w K mg base k kf:=by
 obtain ⟨f,fd,F,r⟩:=c.ex
 exact ⟨⟨f,fd,F.mono h,r⟩⟩
structure RankDef (st:Stmt):Prop where
 k0:(aD st).names.lookup ("some" : Str)=some .cell
 k1:(aD st).names.lookup ("bottom" : Str)=some .cell
 gS:(aD st).names.lookup ("sorted" : Str)=some .globalImplicit
 gR:(aD st).names.lookup ("range" : Str)=some .globalImplicit
 gL:(aD st).names.lookup ("len" : Str)=some .globalImplicit
 clo:∀ L f cdv,∃ cs cb,closureFor fZ (envOfC "ranked" (aD st) L f cdv)=pure [(("some" : Str),cs),(("bottom" : Str),cb)]/\(envOfC "ranked" (aD st) L f cdv).cells.lookup ("some" : Str)=some cs/\(envOfC "ranked" (aD st) L f cdv).cells.lookup ("bottom" : Str)=some cb
section
variable {P:Program} {w:World} {K:PySem.W.Frag} {mg:Str->Option Value} {base:Heap} {st s1 s2:Stmt} {f:Addr} {fd:FuncData} {k:Nat} {sa sb:Sv} {p1 p2 p3 p4 p5 p6 p7 p8 p9 pa pb pc pd pe pf pg ph pi pj pk pl pm pn po:Pos}
theorem zFz {T:Addr} (F:Fn K mg "ranked" st ["some"] f fd) (S:FnScope ["some", "bottom", "each"] ["some"] (aD st)) (D:RankDef st) (hT:jZ K mg T) (hB:BMn base mg) (mS:mg "sorted" = none) (mR:mg "range" = none) (mL:mg "len" = none)
  (hbody:dD st=[s1,s2,.Return (some (.Call (.Name "sorted" pk) [.Call (.Name "range" p1) [.Call (.Name "len" p2) [.Name "some" p3] [] p4] [] p5] [⟨some "key", .Lambda (uG p6) (.BinOp (.Subscript (.Subscript (.Name "some" p7) (.Name "spot" p8) p9) (.Constant (.int 0) 0 pa) pb) .Mult
   (.BinOp (.Name "bottom" pc) .FloorDiv (.Subscript (.Subscript (.Name "some" pd) (.Name "spot" pe) pf) (.Constant (.int 1) 0 pg) ph) pi) pj) fZ pl,pm⟩] pn)) po])
  (h:∀ (cdv:Value) (A:Around) (outer:List Env) (s:Shared) (H:Hp) (E:XK) (G:Gx),Good (BX P w K mg base ["some", "bottom", "each"] "ranked" st f cdv A outer s H E) G k->xS (BX P w K mg base ["some", "bottom", "each"] "ranked" st f cdv A outer s H E) G->
   PSd (BX P w K mg base ["some", "bottom", "each"] "ranked" st f cdv A outer s H E) G s1 sa/\PSd (BX P w K mg base ["some", "bottom", "each"] "ranked" st f cdv A outer s H E) G s2 sb):
  CanR P w K mg base (k+1) (qV sa sb):=by
 refine ⟨f,fd,?_,F.bd,F.kp,F.mg⟩
 obtain ⟨f',oc',od',fd',osl',c,t1,t2,t3,t4⟩:=id hT
 have ef:f'=f:=by have:=t1.symm.trans F.mg;exact Value.ref.inj (Option.some.inj this)
 subst ef
 obtain ⟨oc,od,kV,doc,pm',an,cdv,ct,osl,rfl,lk,hcd⟩:=F.fn.ex
 have efd:cdv=.ref c:=by
  rw [lk] at t2
  cases t2
  exact t3
 subst efd
 refine zGl lk hcd S (fun vs H Q E h=>h.1) fun A outer s H vs Q E hr hsp=>?_
 obtain ⟨hl,Bi,ds,tb,sm,hd,hq⟩:=hsp
 have hg:=zAQ (P:=P) (w:=w) (K:=K) (mg:=mg) (base:=base) (N:=["some", "bottom", "each"]) (outer:=outer) (H:=H) (Bi:=Bi) (E:=E) hr tb
 obtain ⟨h1,h2⟩:=h (.ref c) A outer s H E _ hg wA
 have RC:RankCx (BX P w K mg base ["some", "bottom", "each"] "ranked" st f' (.ref c) A outer s H E) T c:=
  ⟨rfl,hr.depth,rfl,rfl,D.k0,D.k1,rfl,t4,by show (("ranked" : Str) ++ ".<locals>.") ++ "<lambda>" = lU;decide +kernel,hB,D.clo _ _ _,D.gS,mS,D.gR,mR,D.gL,mL⟩
 have body:∀ G,PSs (BX P w K mg base ["some", "bottom", "each"] "ranked" st f' (.ref c) A outer s H E) [s1] (tS (BX P w K mg base ["some", "bottom", "each"] "ranked" st f' (.ref c) A outer s H E) G sa)->PS (BX P w K mg base ["some", "bottom", "each"] "ranked" st f' (.ref c) A outer s H E) s1 (tS (BX P w K mg base ["some", "bottom", "each"] "ranked" st f' (.ref c) A outer s H E) G sa)->PS (BX P w K mg base ["some", "bottom", "each"] "ranked" st f' (.ref c) A outer s H E) s2 (tS (BX P w K mg base ["some", "bottom", "each"] "ranked" st f' (.ref c) A outer s H E) G sb)->
   PSs (BX P w K mg base ["some", "bottom", "each"] "ranked" st f' (.ref c) A outer s H E) (dD st) (zIh (tS (BX P w K mg base ["some", "bottom", "each"] "ranked" st f' (.ref c) A outer s H E) G sa) (zIh (tS (BX P w K mg base ["some", "bottom", "each"] "ranked" st f' (.ref c) A outer s H E) G sb) (zJi (zHH (BX P w K mg base ["some", "bottom", "each"] "ranked" st f' (.ref c) A outer s H E) T)))):=fun G _ h1 h2=>by
  rw [hbody]
  exact mV h1 (mV h2 (vC (sQ (zFy RC))))
 refine ⟨_,body _ (vC h1) h1 h2,?_⟩
 cases ek:qV sa sb ds with
 | no=>rw [ek] at hq;exact hq.elim
 | err c=>rw [ek] at hq;exact hq.elim
 | ok kz=>
  rw [ek] at hq
  unfold qV at ek
  split at ek
  case isFalse=>cases ek
  split at ek
  case h_2=>cases ek
  rename_i ρ1 e1
  split at ek
  case h_2=>cases ek
  rename_i ρ2 e2
  refine ⟨L3.start 3 ds,Bi,sB (N:=["some", "bottom", "each"]) sm hd,?_⟩
  rw [e1]
  intro σ1 Hi1 H1 sm1 R1
  refine ⟨ρ1,Hi1,R1,?_⟩
  rw [e2]
  intro σ2 Hi2 H2 sm2 R2
  unfold vW at ek
  split at ek
  case h_2=>cases ek
  rename_i rows b z0 z1
  split at ek
  case isFalse=>cases ek
  rename_i h64
  obtain ⟨v,q0,r0⟩:=R2.slot 0 _ z0
  obtain ⟨v1,q1,r1⟩:=R2.slot 1 _ z1
  obtain ⟨a,xs,rfl,g1,g2⟩:=r0.lstI
  have r1':=r1.intI
  subst r1'
  obtain ⟨tb2,n2⟩:=hg.tb.ext R2.ext T hT
  exact ⟨Hi2,a,xs,rows,b,kz,q0,q1,.inl g1,g2,R2.s,ek,by rw [(rL ek).1];exact h64,tb2,n2,fun π r Hi' H' hπ x nl=>hq π r Hi' H' hπ (R2.ext.trans x) ⟨R2.ext.h.none nl.1,nl.2⟩⟩
end
section
variable {X:Cx} {G:Gx} {e:Expr} {es:List Expr} {pos p:Pos} {fs:Fv} {k:Nat} {kf:List D->Res (List Int)} {tg:Expr} {body rest:List Stmt} {g:Gv} {sa sb:Sv}
def tIr (X:Cx) (G:Gx) (fs:Fv) (kf:List D->Res (List Int)):TI:=fun σ H R=>∃ ρ Hi,fN X G Hi H σ ρ/\Out G Hi H ((fs ρ).bind kf) fun kz Hi' H'=>∀ π J,eX kz π->oM X.K Hi' J (iB π)->R J H'
theorem zED (W:Good X G k) (c:CanR X.prog X.w X.K X.mg X.base k kf) (hkf:∀ ds c,kf ds≠.err c) (hk1:∀ ds,kf ds≠.no->ds.length=1) (hg:Gl X "ranked") (ha:PAd X G [e] fs) (he:starEach [e] X.env=(false,eval e X.env)::starEach [] X.env:=by rfl):
  PI X tg (.Call (.Name "ranked" p) [e] [] pos) (tIr X G fs kf):=by
 obtain ⟨f,fd,F,b,kp,hm⟩:=c.ex
 refine PI.wk (zEy (uZ F W.room hg hm kp b .nil W.pass ha (by decide) he rfl)) fun σ H R q=>?_
 obtain ⟨ρ,Hi,Rl,ou⟩:=q
 refine zBP Rl ou fun vs ds Hi1 H1 e1 R1 r1 o1=>?_
 rw [List.append_nil]
 have hno:kf ds≠.no:=fun z=>by rw [z] at o1;exact o1
 refine ⟨by rw [r1.length];exact hk1 ds hno,Hi1,ds,W.tb.ext R1.ext,R1.s,r1,?_⟩
 cases z:kf ds with
 | no=>exact absurd z hno
 | err c=>exact absurd z (hkf ds c)
 | ok kz=>
  rw [z] at o1
  intro π a Hi2 H2 hπ e2 n
  obtain ⟨n1,n2,xs,n3,n4⟩:=n
  have x3:=e2.hold n1 n3 n2
  refine ⟨a,rfl,⟨xs,SqL.of n3⟩,o1 _ _ x3 π _ hπ (nF (SqL.of aH) (n4.mono (cA n2 _)))⟩
theorem zEg (W:Good X G k) (c:CanR X.prog X.w X.K X.mg X.base k kf) (hkf:∀ ds c,kf ds≠.err c) (hk1:∀ ds,kf ds≠.no->ds.length=1) (hg:Gl X "ranked") (ha:PAd X G [e] fs) (hgt:PGd X G tg g) (hge:∀ d ρ c,g d ρ≠.err c) (hb:cI X G body sa) (hr:cI X G rest sb)
  (he:starEach [e] X.env=(false,eval e X.env)::starEach [] X.env:=by rfl) {pf:Pos} (hs:∀ x,foldedSetIterable (.Call (.Name "ranked" p) [e] [] pos) X.env x=pure x:=by intro _;rfl):
  cI X G (.For tg (.Call (.Name "ranked" p) [e] [] pos) body [] pf::rest) (zCg fs kf g sa sb):=by
 refine PSs.wk (mV (zDf W.own W.calm (zED W c hkf hk1 hg ha he) hgt hb hs) hr) fun E σ H q=>?_
 obtain ⟨ρ,Hi,R,h⟩:=q
 refine ⟨ρ,Hi,R,kJ R h fun kz Hi1 H1 _ e1 h1 π J hπ gv=>?_⟩
 have hn:jA kz (fun π=>bQ (fun ρ=>dX g sa (iB π) ρ) sb ρ)≠.no:=fun z=>by rw [z] at h1;exact h1
 rw [<-xM hn hπ] at h1
 exact zDF hge (R.grow e1) (zGO (sa:=fun ρ=>dX g sa (iB π) ρ) h1) gv
end
end L3
namespace L3
open PySem PySem.Spec PyProof.Rows L2 PySem.W
unseal PEd PEf PTd PWd PAd PSd cI POd PGd eA PId PSx eN PTs PCd PCf
def zGA (K:PySem.W.Frag) (mg:Str->Option Value):Sp:=fun vs H Q _=>∃ (a:Addr) (ns:List Int) (Bi:Hp),vs=[.ref a]/\TB K mg Bi H/\Same Bi H/\SqL K Bi a (ns.map V.int)/\ns.length<=63/\(∃ m,m<=1048576/\∀ n∈ns,n.natAbs < 2^m)/\∀ H',Q (.bl true) H'
theorem zEc {P:Program} {w:World} {K:PySem.W.Frag} {mg:Str->Option Value} {base:Heap} {k:Nat} {m:Mir} {f:Addr} {fd:FuncData} (F:FnOk P w K mg base (CX1 P w) k f fd ["script"] (spM K mg 1 m))
  (h:∀ ns:List Int,ns.length<=63->(∃ m,m<=1048576/\∀ n∈ns,n.natAbs < 2^m)->m [.lst (ns.map D.int)]=.ok (.v (.bl true))):FnOk P w K mg base (CX1 P w) k f fd ["script"] (zGA K mg):=by
 refine F.imp fun vs H Q E q=>?_
 obtain ⟨a,ns,Bi,rfl,tb,sm,hS,hl,hbg,q⟩:=q
 refine ⟨rfl,Bi,[.lst (ns.map D.int)],tb,sm,.cons (.lst hS (tH ns)) .nil,?_⟩
 rw [h ns hl hbg]
 intro v Hi' H' e r
 rw [r.blI]
 exact q H'
theorem zDS {P:Program} {w:World} {K:PySem.W.Frag} {mg:Str->Option Value} {base:Heap} {k:Nat} {m:Mir} {f:Addr} {fd:FuncData} (F:FnOk P w K mg base (CX1 P w) k f fd ["script"] (spM K mg 1 m))
  (h:∀ ns:List Int,ns.length<=63->m [.lst (ns.map D.int)]=.ok (.v (.bl true))):FnOk P w K mg base (CX1 P w) k f fd ["script"] (zGA K mg):=zEc F fun ns hl _=>h ns hl
theorem zCO {K:PySem.W.Frag} {mg:Str->Option Value} {h:Heap} {T T':Addr} (X:K.In h) (a:jZ K mg T) (b:jZ K mg T'):T'=T:=by
 obtain ⟨f,oc,od,fd,osl,c,a1,a2,a3,a4⟩:=a
 obtain ⟨f',oc',od',fd',osl',c',b1,b2,b3,b4⟩:=b
 rw [a1] at b1;cases b1
 rw [a2] at b2;cases b2
 rw [a3] at b3;cases b3
 obtain ⟨o,vs,_,_,_,_,_,_,_,e1,_,e3,e4,_⟩:=a4 h X
 obtain ⟨o',vs',_,_,_,_,_,_,_,f1,_,f3,f4,_⟩:=b4 h X
 rw [e1] at f1;cases f1
 rw [e3] at f3;cases f3
 rw [e4] at f4;cases f4
 rfl
theorem zAp {P:Program} {w:World} {K:PySem.W.Frag} {mg mb:Str->Option Value} {CX:CXT} {k:Nat} {fa a T:Addr} {fd:FuncData} {x:Str} {s₁:Shared} {vs:List Value} {ns:List Int}
  (KX:K.In s₁.heap) (hns:s₁.heap.Ns mainGlobals mg) (hb:s₁.heap.Ns builtinsNs mb) (hbb:∀ x:Str,x ≠ "__name__" -> mb x=bootBuiltins x) (hlim:s₁.heap.NoLimit) (hg:s₁.gens=#[]) (hbm:BMn s₁.heap mg) (hT:s₁.heap.get? T=some (tabObj #[])) (hKT:K.lookup T=none) (hP:jZ K mg T)
  (ha:s₁.heap.get? a=some { cls:=.type "list", data:=.seq vs.toArray }) (hi:IntsAre vs ns) (hl:ns.length<=63) (hbg:∃ m,m<=1048576/\∀ n∈ns,n.natAbs < 2^m) (hr:Room k callerA)
  (F:∀ base:Heap,K.In base->base.Ns mainGlobals mg->BMn base mg->FnOk P w K mg base CX k fa fd [x] (zGA K mg)) (hbind:∀ (s:Shared) (u:Value),BindsTo s fd ⟨[u],[]⟩ [(x,u)])
  (hCX:∀ H e s',CX [] H s₁ (fun _ _ _=>False) e s'->False):
  codeAny (model P w) callerA (.call (.ref fa) ⟨[.ref a],[]⟩) (fun r s'=>r=.ok (.ret (.bool true))/\OldK s₁.heap s'.heap/\s'.os=s₁.os/\AllBare s'.gens) s₁:=by
 have rv:=sF hi
 have lenV:=hi.length
 have haT:a≠T:=fun z=>by rw [z,hT] at ha;cases ha
 have core:∀ Bi:Hp,zJq Bi->SqL K Bi a (ns.map V.int)->HOk P w Bi s₁.heap->(∀ b,Bi b≠none->b=a)->(Bi a≠none->K.lookup a=none)->
   codeAny (model P w) callerA (.call (.ref fa) ⟨[.ref a],[]⟩) (fun r s'=>r=.ok (.ret (.bool true))/\OldK s₁.heap s'.heap/\s'.os=s₁.os/\AllBare s'.gens) s₁:=by
  intro Bi hO hS hokB hA hK
  have hBT:Bi T=none:=by
   cases q:Bi T with
   | none=>rfl
   | some u=>exact absurd (hA T (by rw [q];simp)).symm haT
  generalize hHdef:upd Bi T (.tbl #[])=H
  have HT:H T=some (.tbl #[]):=by rw [<-hHdef,aH]
  have Hne:∀ {b},b≠T->H b=Bi b:=fun z=>by rw [<-hHdef,aO z]
  have sm:Same Bi H:=fun b o e=>by rw [Hne (aR e hBT)];exact e
  have hok:HOk P w H s₁.heap:=fun b u e=>by
   by_cases hb:b=T
   ·subst hb;rw [HT] at e;cases e;exact hT
   ·rw [Hne hb] at e
    exact (hokB b u e).stay (fun c v _ q=>q) (fun c q=>sm _ _ q) fun c xs q=>sm _ _ q
  have only:∀ {b:Addr} {o:Obj},s₁.heap.get? b=some o->(∀ xs n,o.data≠.seq xs n)->(∀ vs,o.data≠.fields vs)->H b=none:=fun {b o} e d1 d2=>by
   by_cases hb:b=T
   ·subst hb;rw [hT] at e;cases e;exact absurd rfl (d2 #[])
   ·rw [Hne hb]
    cases q:Bi b with
    | none=>rfl
    | some u=>
     have e':b=a:=hA b (by rw [q];simp)
     subst e'
     rw [ha] at e;cases e
     exact absurd rfl (d1 _ _)
  have base_of:∀ {b:Addr} {o:Obj},s₁.heap.get? b=some o->H b=none->(zBL s₁.heap H).get? b=some o:=fun e n=>zCz e n
  have nsK:∀ {b:Addr} {m:Str->Option Value},s₁.heap.Ns b m->(zBL s₁.heap H).Ns b m:=fun {b m} ⟨o,es,ep,e,d,r⟩=>⟨o,es,ep,base_of e (only e (fun xs n z=>by rw [d] at z;cases z) (fun vs z=>by rw [d] at z;cases z)),d,r⟩
  have hKb:K.In (zBL s₁.heap H):=fun b o e=>base_of (KX b o e) (by
   by_cases hb:b=T
   ·subst hb;rw [hKT] at e;cases e
   ·rw [Hne hb]
    cases q:Bi b with
    | none=>rfl
    | some u=>
     have e':b=a:=hA b (by rw [q];simp)
     subst e'
     rw [hK (by rw [q];simp)] at e;cases e)
  have hBb:BMn (zBL s₁.heap H) mg:=by
   obtain ⟨bm,ob,b1,b2,b3,b4,b5,b6⟩:=hbm
   exact ⟨bm,ob,b1,b2,base_of b3 (only b3 (fun xs n z=>by rw [b6] at z;cases z) (fun vs z=>by rw [b6] at z;cases z)),b4,b5,b6⟩
  have hM:Mod K mg (zBL s₁.heap H):=⟨hKb,nsK hns,⟨mb,nsK hb,hbb⟩,let ⟨mc,h1,h2⟩:=hlim;⟨mc,nsK h1,h2⟩⟩
  have e0:Env0 P w K mg (zBL s₁.heap H) callerA [] s₁ H:=⟨rfl,hM,fun b o e=>zEb e,Nat.le_of_eq (zAI _ _),trivial,fun b hb=>absurd (show b∈([]:List Addr) from hb) (by simp),hok,.of_eq hg⟩
  have htb:TB K mg Bi H:=fun T' h'=>by
   have e':=zCO KX hP h'
   subst e'
   exact ⟨⟨#[],HT,trivial,fun pos cv z=>by cases z⟩,hBT⟩
  refine codeAny_mono ((F _ hKb (nsK hns) hBb).run callerA [] s₁ H ⟨[.ref a],[]⟩ [.ref a] [.ref a] (fun v _=>v=.bl true) (fun _ _ _=>False) hr e0 (hbind s₁ (.ref a)) (.cons rfl .nil) ⟨a,ns,Bi,rfl,htb,sm,hS,hl,hbg,fun _=>rfl⟩) fun r s' h=>?_
  cases r with
  | error e=>exact (hCX H e s' h).elim
  | ok fl=>
   cases fl with
   | next=>exact False.elim h
   | brk=>exact False.elim h
   | cont=>exact False.elim h
   | ret u=>
    obtain ⟨v,H',os,bare,un,hok',r',q⟩:=h
    have q':v=.bl true:=q
    subst q'
    obtain rfl:u=Value.bool true:=r'
    refine ⟨rfl,⟨fun b o e=>?_,fun b o e=>un.there b o e (by simp)⟩,os,bare⟩
    by_cases hbT:b=T
    ·subst hbT
     obtain ⟨more,z⟩:=un.tbls b _ HT
     have z2:s'.heap.get? b=some { cls:=.none,data:=.fields (#[]++more) }:=hok' b _ z
     rw [hT] at e;cases e
     obtain ⟨f,oc,od,fd',osl,c,a1,a2,a3,a4⟩:=hP
     obtain ⟨o,vs,_,_,_,_,_,_,_,e1,e2,e3,e4,_⟩:=a4 _ KX
     exact .inr (.inl ⟨⟨c,o,vs,e1,e2,e3,e4⟩,rfl,#[],more,rfl,z2⟩)
    ·refine .inl ?_
     cases q:H b with
     | none=>exact un.keep b o e q (by intro z;exact absurd (show b∈([]:List Addr) from z) (by simp)) (by simp)
     | some u=>
      rw [Hne hbT] at q
      rcases hO b with z | ⟨ob,xs,z⟩
      ·rw [q] at z;cases z
      ·have z2:=un.frzs b ob _ (by rw [Hne hbT];exact z)
       obtain ⟨e1,_⟩:=hokB b _ z
       obtain ⟨e2,_⟩:=hok' b _ z2
       rw [e] at e1;cases e1
       exact e2
 cases hk:K.lookup a with
 | some o=>
  have e:=KX a o hk
  rw [ha] at e
  cases e
  refine core (fun _=>none) (fun _=>.inl rfl) (.inr ⟨_,vs.toArray,_,hk,rfl,rfl,rfl,by rw [List.size_toArray,lenV,sizeLine_eq];omega,by simpa using rv⟩) (fun b u z=>by have z':(none:Option HO)=some u:=z;cases z') (fun b z=>absurd rfl z) fun z=>absurd rfl z
 | none=>
  refine core (fun b=>if b=a then some (.frz { cls:=.type "list", data:=.seq vs.toArray } (.lst (ns.map V.int))) else none) (fun b=>?_) (.inl (.inr ⟨{ cls:=.type "list", data:=.seq vs.toArray },if_pos rfl⟩)) (fun b u z=>?_) (fun b z=>?_) fun _=>hk
  ·by_cases hb:b=a
   ·exact .inr ⟨_,_,if_pos hb⟩
   ·exact .inl (if_neg hb)
  ·by_cases hb:b=a
   ·have z':=(if_pos hb).symm.trans z
    cases z'
    subst hb
    exact ⟨ha,by rw [List.length_map,sizeLine_eq];omega,vs,_,rv,ha⟩
   ·have z':=(if_neg hb).symm.trans z
    cases z'
  ·by_cases hb:b=a
   ·exact hb
   ·exact absurd (if_neg hb) z
theorem zDv:∀ {ns:List Int} {n:Int},n∈ns->(WData.int n).weight<=WData.weightAll (ns.map WData.int)
 | a::r,n,h=>by
  rw [List.map_cons,WData.weightAll]
  rcases List.mem_cons.mp h with rfl | h
  ·omega
  ·have:=zDv h
   omega
theorem zEf {ns:List Int} (h:WData.layableAll [WData.list (ns.map WData.int)]=true):(∃ m,m<=1048576/\∀ n∈ns,n.natAbs < 2^m):=by
 refine ⟨1048576,Nat.le_refl _,fun n hn=>?_⟩
 have w:WData.weightAll (ns.map WData.int)<=2^20:=by
  unfold WData.layableAll WData.layable at h
  simp only [List.all_cons,List.all_nil,Bool.and_true,Bool.and_eq_true,decide_eq_true_eq] at h
  have:=h.2
  rw [WData.weight] at this
  exact this
 have a:=zDv hn
 rw [WData.weight] at a
 by_cases z:n=0
 ·subst z
  exact Nat.two_pow_pos _
 ·rw [if_neg (by simpa using z)] at a
  exact Nat.lt_of_lt_of_le Nat.lt_log2_self (Nat.pow_le_pow_right (by decide) (by omega))
open PySem.Calls in
theorem tT {l:OpenLaw} {n:Nat} {q:Program} {loose:List Str} {XP:(Str->Option Value)->Heap->Prop} {YP:World->Heap->Prop} {d:DefRec}
  (hn:l.most=some n) (hdf:d.params.defaults=[])
  (call:∀ (w:World) (s₀ s₁:Shared) (mg mb:Str->Option Value) (fa:Addr) (o:Obj) (pm cd doc:Value) (a:Addr) (vs:List Value) (ns:List Int),(∃ m,m<=1048576/\∀ n∈ns,n.natAbs < 2^m)->
   Ground q loose [] XP w s₀ mg mb s₁.heap->YP w s₁.heap->
   s₁.heap.get? fa=some o->o.data=.func (docDef d.name d.params d.body d.scope pm cd doc)->s₁.heap.CodeRec cd d.name->mg d.name=some (.ref fa)->
   s₁.heap.get? a=some { cls:=.type "list", data:=.seq vs.toArray }->IntsAre vs ns->ns.length<=n->s₁.gens=#[]->
   codeAny (model l.prog w) callerA (.call (.ref fa) ⟨[.ref a],[]⟩) (fun r s'=>r=.ok (.ret (.bool true))/\OldK s₁.heap s'.heap/\s'.os=s₁.os/\AllBare s'.gens) s₁):
  WalkO q loose XP YP l.row.toRowW d [] (fun f vs=>PySem.call f vs):=by
 intro w s₀ s₁ mg mb G Y fa o pm cd doc dV kV ho hd hcd hD hmg hg args vals as hpre hlay hrd hwl hlo
 obtain rfl:dV=.none:=Dflts.none hD hdf
 obtain rfl:kV=.none:=Dflts.noKw hD
 obtain ⟨a,vs,ns,rfl,rfl,hobj,hints,hlen⟩:=Att.script_of hn hpre hwl
 refine enter_call (codeAny_mono (call w s₀ s₁ mg mb fa o pm cd doc a vs ns (zEf hlay) G Y ho (fd_plain hd) hcd hmg hobj hints hlen hg) fun r s' hq=>?_)
 obtain ⟨rfl,h2,h3,h4⟩:=hq
 exact ⟨.inl ⟨.bool true,.bool true,[],rfl,fun _=>rfl,.bool true,Att.post_true l _,fun _=>⟨List.Pairwise.nil,fun _ hm=>(nomatch hm)⟩⟩,h2,h3,h4⟩
theorem zIo {l:PySem.W.OpenLaw} {k:Nat} {q:Program} {loose:List Str} {XP:(Str->Option Value)->Heap->Prop} {YP:World->Heap->Prop} {d:DefRec} {K:Params->PySem.W.Frag} {T:Addr} (hn:l.most=some 63) (hdf:d.params.defaults=[]) (hr:Room k callerA)
  (hY:∀ (w:World) (h:Heap),YP w h->(K w.params).In h) (hT:∀ (w:World) (h:Heap),YP w h->h.get? T=some (tabObj #[]))
  (F:∀ (w:World) (mg:Str->Option Value) (fa:Addr) (h:Heap),(K w.params).In h->h.Ns mainGlobals mg->mg d.name=some (.ref fa)->
   (K w.params).lookup T=none/\jZ (K w.params) mg T/\∃ fd:FuncData,(∀ (s:Shared) (u:Value),BindsTo s fd ⟨[u],[]⟩ [("script", u)])/\∀ base:Heap,(K w.params).In base->base.Ns mainGlobals mg->BMn base mg->FnOk l.prog w (K w.params) mg base (CX1 l.prog w) k fa fd ["script"] (zGA (K w.params) mg)):
  PySem.W.WalkO q loose XP YP l.row.toRowW d [] (fun f vs=>PySem.call f vs):=by
 refine tT hn hdf fun w s₀ s₁ mg mb fa o pm cd doc a vs ns hbg G Y ho hd hcd hmg hobj hints hlen hg=>?_
 have KX:=hY w _ Y
 obtain ⟨h1,h2,fd,hb,hF⟩:=F w mg fa _ KX G.T.g hmg
 exact zAp KX G.T.g G.T.b G.T.builtins G.T.nolimit hg G.T.bmain (hT w _ Y) h1 h2 hobj hints hlen hbg hr hF hb fun _ _ _ z=>by
  obtain ⟨_,_,_,_,_,z⟩:=z
  exact z
end L3
namespace L3
open PySem PySem.Spec PyProof.Rows L2 PySem.W
unseal PEd PEf PTd PWd PAd PSd cI POd PGd eA PId PSx eN PTs PCd PCf
section
variable {X:Cx} {G:Gx} {pins:List (Addr×Obj)} {σ:St} {H Hi:Hp} {s:Shared} {ρ:Rho} {i k:Nat} {st:Stmt} {sa:Sv}
end
end L3
namespace L3
open PySem PySem.Spec PyProof.Rows L2 PySem.W
unseal PEd PEf PTd PWd PAd PSd cI POd PGd eA PId PSx eN PTs PCd PCf
section
variable {X:Cx} {G:Gx} {e a:Expr} {f g:Ev} {pos:Pos}
end
end L3
namespace L3
open PySem PySem.Spec PyProof.Rows L2 PySem.W
unseal PEd PEf PTd PWd PAd PSd cI POd PGd eA PId PSx eN PTs PCd PCf
section
variable {X:Cx} {G:Gx} {st:Stmt} {rest:List Stmt} {sa sb:Sv} {u:TS}
end
section
variable {P:Program} {w:World} {K:PySem.W.Frag} {mg:Str->Option Value} {base:Heap} {N ps:List Str} {x:Str} {st:Stmt} {f:Addr} {fd:FuncData} {k i0 i1 i2:Nat} {sv:Sv}
end
section
variable {X:Cx} {G:Gx} {e:Expr} {es:List Expr} {pos p:Pos} {fs:Fv} {k j0 j1 j2:Nat} {kf:List D->Res Tri} {x:Str} {ps:List Str} {tg:Expr}
end
end L3
namespace L3
open PySem PySem.Spec PyProof.Rows L2
unseal PEd PEf PTd PWd PAd PSd cI POd PGd eA PId PSx eN PTs PCd PCf
section
variable {X:Cx} {G:Gx} {fs:Fv} {f:Ev}
end
end L3
namespace L3
open PySem PySem.Spec PyProof.Rows L2
unseal PEd PEf PTd PWd PAd PSd cI POd PGd eA PId PSx eN PTs PCd PCf
section
variable {prog:Program} {w:World} {A:Around} {E:Value->Shared->Prop} {s:Shared}
end
section
variable {X:Cx} {G:Gx} {f:Ev}
end
section
variable {X:Cx} {G:Gx} {it:Fv} {t:Tv}
end
end L3
namespace L3
open PySem PySem.Spec PyProof.Rows L2
unseal PEd PEf PTd PWd PAd PSd cI POd PGd eA PId PSx eN PTs PCd PCf
section
variable {X:Cx} {G:Gx}
theorem aW {i:Int} {j pos}:PEd X G (.Constant (.int i) j pos) (eC (.int i)):=fO zBo fun _=>.int _
theorem aS (i:Nat) {x:Str} {pos:Pos} (hN:X.N[i]?=some x:=by rfl) (hv:Vis X.env.scope x:=by first | exact Or.inl rfl | exact Or.inr (Or.inl rfl) | exact Or.inr (Or.inr rfl)) (hd:(x==("__debug__" : Str))=false:=by decide)
  (hcd:(x==("__classdict__" : Str))=false:=by decide):PEd X G (.Name x pos) (aE i):=zGW i (pv i hN hv hd hcd)
theorem iF (n:Nat) {x:Str} {pos p2:Pos} {i:Int} {j p1} (hN:X.N[n]?=some x:=by rfl) (hv:Vis X.env.scope x:=by first | exact Or.inl rfl | exact Or.inr (Or.inl rfl) | exact Or.inr (Or.inr rfl)) (hd:(x==("__debug__" : Str))=false:=by decide)
  (hcd:(x==("__classdict__" : Str))=false:=by decide):PEd X G (.Subscript (.Name x pos) (.Constant (.int i) j p1) p2) (eOp oIx (aE n) (eC (.int i))):=jY cS wD (aS n hN hv hd hcd) aW (fun _ _=>rfl)
end
end L3
namespace L3
open PySem PySem.Spec PyProof.Rows L2
unseal PEd PEf PTd PWd PAd PSd cI POd PGd eA PId PSx eN PTs PCd PCf
section
variable {X:Cx} {G:Gx} {it:Fv} {t:Tv}
end
end L3
namespace L3
open PySem PySem.Spec PyProof.Rows L2
unseal PEd PEf PTd PWd PAd PSd cI POd PGd eA PId PSx eN PTs PCd PCf
section
variable {X:Cx} {G:Gx} {a:Expr} {f:Ev}
theorem zJw {i:Int} {j p1 p2} (h:PEd X G a f):PEd X G (.Subscript a (.Constant (.int i) j p1) p2) (eOp oIx f (eC (.int i))):=jY cS wD h aW (fun _ _=>rfl)
theorem zHK (h:PEd X G a f) (n:Nat) {x:Str} {pos p2:Pos} (hN:X.N[n]?=some x:=by rfl) (hv:Vis X.env.scope x:=by first | exact Or.inl rfl | exact Or.inr (Or.inl rfl) | exact Or.inr (Or.inr rfl)) (hd:(x==("__debug__" : Str))=false:=by decide)
  (hcd:(x==("__classdict__" : Str))=false:=by decide):PEd X G (.Subscript a (.Name x pos) p2) (eOp oIx f (aE n)):=jY cS wD h (aS n hN hv hd hcd) (fun _ _=>rfl)
theorem dB (n:Nat) {x:Str} {pos:Pos} (hN:X.N[n]?=some x:=by rfl) (hv:Vis X.env.scope x:=by first | exact Or.inl rfl | exact Or.inr (Or.inl rfl) | exact Or.inr (Or.inr rfl)) (hd:(x==("__debug__" : Str))=false:=by decide)
  (hcd:(x==("__classdict__" : Str))=false:=by decide):PAd X G [.Name x pos] (aB (aE n) aNil):=aA (aS n hN hv hd hcd) aN aF
theorem s_z (i:Nat) {x:Str} {pos pos':Pos} (hN:X.N.Nodup) (he:PEd X G a f) (hi:X.N[i]?=some x:=by rfl) (hx:Loc X.env.scope x:=by first | exact Or.inl rfl | exact Or.inr rfl) (hs:swapsWith a (some (.Name x pos')) pos.line X.env=pure false:=by rfl)
  (hf:X.fn x=true∨X.env.scope.names.lookup x=some .local:=by first | exact .inl rfl | exact .inr rfl | assumption):PSd X G (.Assign [.Name x pos'] a pos) (dU i f):=zIM hN hi hx he hs hf
theorem g_z (i:Nat) {x:Str} {pos:Pos} (hN:X.N.Nodup) (hi:X.N[i]?=some x:=by rfl) (hx:Loc X.env.scope x:=by first | exact Or.inl rfl | exact Or.inr rfl) (hf:X.fn x=true∨X.env.scope.names.lookup x=some .local:=by first | exact .inl rfl | exact .inr rfl | assumption):PGd X G (.Name x pos) (gName i):=zHe hN hi hx hf
theorem yG {s j p}:PAd X G [.Constant (.str s) j p] (aB (eC (.str s)) aNil):=aA (fO bH fun _=>.str _) aN aT
end
section
variable {P:Program} {w:World} {K:PySem.W.Frag} {mg:Str->Option Value} {base:Heap} {k:Nat} {x:Str} {st:Stmt} {ps N:List Str} {f:Addr} {fd:FuncData} {b:Sv}
theorem jH (F:Fn K mg x st ps f fd) (S:FnScope N ps (aD st))
  (h:∀ {cdv:Value} {A:Around} {outer:List Env} {s:Shared} {H:Hp} {E:XK} {G:Gx},Good (BX P w K mg base N x st f cdv A outer s H E) G k->xS (BX P w K mg base N x st f cdv A outer s H E) G->cI (BX P w K mg base N x st f cdv A outer s H E) G (dD st) b):
  CanM P w K mg base (k+1) x ps (fn ps.length N.length b):=zAV F S fun _ _ _ _ _ _ _ W R=>h W R
end
end L3
namespace L3
open PySem PySem.Spec PyProof.Rows L2
unseal PEd PEf PTd PWd PAd PSd cI POd PGd eA PId PSx eN PTs PCd PCf
section
variable {X:Cx} {G:Gx} {e:Expr} {es:List Expr} {pos p:Pos} {fs:Fv} {k:Nat} {x:Str} {ps:List Str} {m:Mir}
theorem zBZ (i:Nat) (he:PE X e (uY i)):PSd X G (.Return (some e) pos) (uN i):=PS.wk (sQ he) fun E σ H q=>by
 obtain ⟨ρ,Hi,R,h⟩:=q
 unfold uN at h
 cases z:ρ[i]? with
 | none=>rw [z] at h;exact h.elim
 | some s=>
  rw [z] at h
  cases s with
  | own ds=>
   obtain ⟨a,xs,p,h1,h2,h3,h4⟩:=R.slot i _ z
   exact ⟨.ref a,p,h a Hi H R.ext ⟨h3,h2,xs,h1,h4⟩⟩
  | val d=>
   obtain ⟨v,p,h1⟩:=R.slot i _ z
   exact ⟨v,p,h v Hi H R.ext h1⟩
  | un=>exact h.elim
  | exc c=>exact h.elim
  | tab T=>exact h.elim
  | ins c fs=>exact h.elim
end
section
variable {X:Cx} {G:Gx} {a c:Expr} {f:Ev} {pos:Pos}
end
end L3
namespace L3
open PySem PySem.Spec PyProof.Rows L2 PySem.W
unseal PEd PEf PTd PWd PAd PSd cI POd PGd eA PId PSx eN PTs PCd PCf
section
variable {X:Cx} {G:Gx} {e:Expr} {pos p:Pos} {fs:Fv} {k:Nat} {kf:List D->Res (List Int)}
end
section
variable {X:Cx} {G:Gx} {e o k:Expr} {f fk:Ev} {pos tpos:Pos}
end
section
variable {X:Cx} {G:Gx} {e:Expr} {fs:Fv}
end
section
variable {X:Cx}
end
end L3
namespace L3
open PySem PySem.Spec PyProof.Rows L2
section
variable {prog:Program} {w:World} {A:Around} {E:Value->Shared->Prop} {s:Shared}
end
section
variable {prog:Program} {w:World} {A:Around} {E:Value->Shared->Prop} {s:Shared}
end
section
unseal PEd PEf PTd PWd PAd PSd cI POd PGd eA PId PSx eN PTs PCd PCf
variable {X:Cx} {G:Gx} {fs:Fv} {f:Ev}
end
end L3
namespace L3
open PySem PySem.Spec PyProof.Rows L2 PySem.W
unseal PEd PEf PTd PWd PAd PSd cI POd PGd eA PId PSx eN
section
variable {X:Cx} {G:Gx} {k:Nat} {fb fh:Sv} {body suite:List Stmt} {b₀:Stmt} {ce:Str} {np hpos pos:Pos}
end
end L3
namespace L3
open PySem PySem.Spec PyProof.Rows L2 PySem.W
unseal PEd PEf PTd PWd PAd PSd cI POd PGd eA PId PSx eN PTs PCd PCf
section
variable {X:Cx} {G:Gx} {fa fb fm:Ev} {pos:Pos}
end
end L3
namespace L3
open PySem PySem.Spec PyProof.Rows L2
unseal PEd PEf PTd PWd PAd PSd cI POd PGd eA PId PSx eN PTs PCd PCf
section
variable {X:Cx} {G:Gx} {a b c d:Expr} {f g h q:Ev} {pos:Pos}
theorem zBl (num:Nat->Int):∀ k,num (argBest (fun i j=>decide (num i < num j)) k)=pO (num 0) ((List.range k).map fun i=>num (i+1))
 | 0=>rfl
 | k+1=>by
  rw [List.range_succ,List.map_append]
  have app:∀ (l:List Int) (a b:Int),pO a (l++[b])=if b < pO a l then b else pO a l:=by
   intro l
   induction l with
   | nil=>intro a b;rfl
   | cons x r ih=>intro a b;rw [List.cons_append,pO,ih,pO]
  rw [List.map_singleton,app,<-zBl num k]
  show num (if decide (num (k+1) < num (argBest _ k))=true then k+1 else argBest _ k)=_
  by_cases h:num (k+1) < num (argBest (fun i j=>decide (num i < num j)) k)
  ·rw [if_pos (decide_eq_true h),if_pos h]
  ·rw [if_neg (by simp [h]),if_neg h]
theorem uW (m:Int) (ns:List Int):(m::ns).getD (argBest (fun i j=>decide ((m::ns).getD i 0 < (m::ns).getD j 0)) ns.length) 0=pO m ns:=by
 rw [zBl (fun i=>(m::ns).getD i 0) ns.length]
 show pO m _=_
 congr 1
 refine List.ext_getElem? fun i=>?_
 rw [List.getElem?_map]
 by_cases h:i < ns.length
 ·rw [List.getElem?_range h,List.getElem?_eq_getElem h]
  show some ((m::ns).getD (i+1) 0)=_
  rw [List.getD_cons_succ,List.getD_eq_getElem?_getD,List.getElem?_eq_getElem h];rfl
 ·rw [List.getElem?_eq_none (by rw [List.length_range];omega),List.getElem?_eq_none (by omega)];rfl
def zGk (K:PySem.W.Frag):List V->Hp->VK->Prop:=fun xs H Q=>∃ (a:Addr) (m:Int) (ns:List Int),xs=[.ref a]/\SqL K H a ((m::ns).map V.int)/\Q (.int (pO m ns)) H
theorem rR (hc:X.calm=true):iN X (.builtin "min") (zGk X.K):=by
 intro pins s σ H xs us Q I r h
 obtain ⟨a,m,ns,rfl,hq,q⟩:=h
 obtain ⟨u,rfl,ru⟩:=pD r
 cases ru
 have hh:=I.ok.hd hc
 obtain ⟨its,rv,p,hz⟩:=I.list hq
 have hlt:a < s.heap.objs.size:=by obtain ⟨_,e,_⟩:=p.isList;exact Heap.lt_size e
 have hl:=rv.length
 rw [List.length_map,List.length_cons] at hl
 refine call_min_walk (wpAny_pyIter_list p.isList ?_)
 refine ⟨s.heap.objs.size,_,_,_,_,_,fun i j=>decide ((m::ns).getD i 0 < (m::ns).getD j 0),rfl,Walks.list (A:=X.A.in1) hh s.heap.objs.size a (Nat.ne_of_lt hlt) its.toArray,⟨⟨_,Heap.get?_push_size _ rfl,rfl,rfl⟩,p.isList.push _⟩,fun b hb=>?_,by rw [List.size_toArray];omega,CmpOf.ints_lt _ fun i v hv=>iZ rv (by simpa using hv),fun v h' tk hv hk=>?_⟩
 ·show b < (s.heap.push _).objs.size
  rw [Heap.size_push]
  rcases List.mem_cons.mp hb with rfl | hb
  ·exact Nat.lt_succ_self _
  ·rcases List.mem_cons.mp hb with rfl | hb
   ·exact Nat.lt_succ_of_lt hlt
   ·cases hb
 ·obtain ⟨t,rfl⟩:=iZ rv (i:=argBest (fun i j=>decide ((m::ns).getD i 0 < (m::ns).getD j 0)) (its.toArray.size - 1)) (by simpa using hv)
  refine ⟨.int (pO m ns),H,I.kept (t':=tk) fun b o e=>hk b o (fun z=>?_) (Heap.get?_push_of_some _ e),⟨t,?_⟩,q⟩
  ·have z':b=s.heap.objs.size:=by simpa using z
   have l:=Heap.lt_size e
   rw [z'] at l
   exact Nat.lt_irrefl _ l
  ·rw [List.size_toArray,<-hl,Nat.add_sub_cancel,uW]
theorem zV:pB X (zGk X.K) xQ:=⟨fun a c z=>(by
  unfold xQ at z
  split at z
  ·split at z<;>cases z
  ·cases z),fun Hi H vs ds d Q s r z q=>by
  unfold xQ at z
  split at z
  ·split at z
   ·rename_i m ns hns
    cases z
    obtain ⟨v,rfl,h⟩:=r.one
    obtain ⟨a,xs,rfl,h1,h2⟩:=h.lstI
    have e:=eO h2 hns
    subst e
    exact ⟨a,m,ns,rfl,bC s h1,q _ Hi H (Ext.refl s) (.int _)⟩
   ·cases z
  ·cases z⟩
theorem zDs {pins:List (Addr×Obj)} {σ:St} {H:Hp} {s:Shared} (I:Inv X pins σ H s) {dx:D}:∀ {xs:List V} {ds:List D} {us:List Value},IsDs X.K H xs ds->cO xs us->us.map (zC X.K H dx)=ds.map fun d=>eqD d dx
 | _,_,_,.nil,.nil=>rfl
 | _,_,_,.cons h hs,.cons r t=>by rw [List.map_cons,List.map_cons,uD I h r,zDs I hs t]
def rWh (K:PySem.W.Frag):V->List V->Hp->VK->Prop:=fun x vs H Q=>∃ (y:V) (d:D) (ds:List D) (j:Nat),vs=[y]/\IsD K H y d/\IsD K H x (.lst ds)/\depS ds<=50/\ds.findIdx? (fun e=>eqD e d)=some j/\Q (.int (j:Nat)) H
theorem zIJ (hu:X.A.units+64 < cLine):MtR X "list.index" (rWh X.K):=by
 intro pins s σ H x vs v us Q I rx rv h
 obtain ⟨y,d,ds,j,rfl,h1,h2,hn,hj,q⟩:=h
 obtain ⟨u,rfl,ru⟩:=rv.one
 obtain ⟨a,xs,rfl,hl,hs⟩:=h2.lstI
 cases rx
 obtain ⟨its,r,pl,hz⟩:=I.list hl
 obtain ⟨o,n,eo,co,cd,dat⟩:=id pl
 obtain ⟨cls,dd,data,sl⟩:=o
 simp only at co dat
 subst co dat
 have hd:∀ e∈ds,dep e<=50:=fun e he=>Nat.le_trans (jC he) hn
 have hm:=zDs I (dx:=d) hs r
 have hlen:its.length=ds.length:=by
  have:=congrArg List.length hm
  rwa [List.length_map,List.length_map] at this
 have hxl:=r.length
 obtain ⟨k1,k2,k3⟩:=List.findIdx?_eq_some_iff_getElem.mp hj
 have hat:∀ i (hi:i < its.length),zC X.K H d its[i]=eqD (ds[i]'(by omega)) d:=fun i hi=>by
  have:=congrArg (fun l=>l[i]?) hm
  simp only [List.getElem?_map] at this
  rw [List.getElem?_eq_getElem hi,List.getElem?_eq_getElem (by omega)] at this
  exact Option.some.inj this
 have hn63:=qA
 refine call_meets F.slot_list_index pl.isList.typeIs F.entry_list_index (F.args_list_index_2 _ _) (SeqAt.list_indexAt a _ n dd sl u (zC X.K H d) j (by rw [List.size_toArray];omega) (by omega) ?_ fun m hm' hmj=>?_) ⟨eo,fun z hz=>kY I h1 ru ?_ hs r hd z (by simpa using hz),?_⟩
 ·rw [List.getElem_toArray,hat];exact k2
 ·rw [List.getElem_toArray,hat]
  exact Bool.eq_false_iff.mpr (k3 m hmj)
 ·first | (show X.A.units+1+1+50 < cLine;omega) | (show X.A.units+1+50 < cLine;omega) | (show X.A.units+50 < cLine;omega)
 ·exact ⟨.int _,H,I.tok _,⟨_,rfl⟩,q⟩
theorem zIL {o e:Expr} {p2 p3:Pos} (hu:X.A.units+64 < cLine) (ho:PEd X G o f) (he:PEd X G e g)
  (hbase:attributeBase o "index" X.env (eval o X.env)=eval o X.env:=by rfl)
  (hfew:((backTo p3 (starEach [e] X.env)).all (fun x=>!x.1) && (backToKw p3 (keywordEach [] X.env)).all (fun x=>x.1.isSome)
   && decide ([e].length+([]:List Keyword).length+(if ([]:List Keyword).isEmpty then 0 else 1) < 30))=true:=by rfl)
  (hline:(p2.endLine==p3.line)=true:=by rfl) (hs:starEach [e] X.env=(false,eval e X.env)::starEach [] X.env:=by rfl):
  PEd X G (.Call (.Attribute o "index" p2) [e] [] p3) (eWh f g):=
 PE.wk (zCL F.plainAttrs_list F.slot_list_index F.type_list_index (zIJ hu) ho (dE he gJ hs) hbase hfew hline hs rfl) fun σ H Q q=>by
  obtain ⟨ρ,Hi,R,ou⟩:=q
  refine rQ R ou fun v d Hi1 H1 e1 R1 r1 o1=>?_
  cases d with
  | lst ds=>
   obtain ⟨a,xs,rfl,h1,h2⟩:=r1.lstI
   refine ⟨.inl ⟨rfl,xs,bC R1.s h1⟩,?_⟩
   refine rQ R1 o1 fun w d2 Hi2 H2 e2 R2 r2 o2=>?_
   by_cases hn:depS ds<=50
   ·cases z:ds.findIdx? (fun e=>eqD e d2) with
    | none=>rw [show whG ds d2=.no by unfold whG;rw [if_pos hn,z]] at o2;exact o2.elim
    | some j=>
     rw [show whG ds d2=.ok (.int (j:Nat)) by unfold whG;rw [if_pos hn,z]] at o2
     exact ⟨w,d2,ds,j,rfl,r2.mono R2.s,(r1.mono e2.i).mono R2.s,hn,z,o2.here R2.s _ (.int _)⟩
   ·rw [show whG ds d2=.no by unfold whG;rw [if_neg hn]] at o2;exact o2.elim
  | _=>exact o1.elim
end
end L3
namespace L3
open PySem PySem.Spec PyProof.Rows L2 PySem.W
unseal PEd PEf PTd PWd PAd PSd cI POd PGd eA PId PSx eN PTs PCd PCf
open Classical in
def zIB (H:Hp) (a:Addr):Hp:=fun b=>if b=a then none else H b
section
variable {X:Cx} {G:Gx} {st:Stmt} {rest:List Stmt} {sa sb:Sv} {u:TS} {k:Nat} {f:Ev}
end
section
variable {K:PySem.W.Frag} {mg:Str->Option Value} {B Bi Hi H:Hp} {σ:St} {ρ:Rho}
end
section
variable {P:Program} {w:World} {K:PySem.W.Frag} {mg:Str->Option Value} {base:Heap} {N ps:List Str} {x:Str} {st:Stmt} {f:Addr} {fd:FuncData} {k np i1 i2:Nat} {f1 f2 f3 f4:Ev} {sS:Sv}
end
section
variable {X:Cx} {G:Gx} {e1 e2 e3 e4:Expr} {pos p p2 p3:Pos} {k i j l y:Nat} {kf:List D->List D->Res (Bool×List D)} {x:Str} {ps:List Str} {body:List Stmt}
end
end L3
namespace L3
open PySem PySem.Spec PyProof.Rows L2 PySem.W
unseal PEd PEf PTd PWd PAd PSd cI POd PGd eA PId PSx eN PTs PCd PCf
section
variable {X:Cx} {G:Gx} {e:Expr} {es:List Expr} {pos p apos:Pos} {i k:Nat} {c f m x:Str} {fs:Fv}
end
section
variable {P:Program} {w:World} {K:PySem.W.Frag} {mg:Str->Option Value} {base:Heap} {N ps:List Str} {x q c:Str} {st:Stmt} {f C:Addr} {fd:FuncData} {k:Nat} {b sv:Sv}
end
section
variable {K:PySem.W.Frag} {mg:Str->Option Value} {B Bi Hi H:Hp} {σ:St} {ρ:Rho}
end
section
variable {X:Cx} {G:Gx} {e:Expr} {es:List Expr} {pos p:Pos} {fs:Fv} {k j:Nat} {kf:List D->Res Vo} {x y:Str} {ps:List Str}
end
section
variable {X:Cx} {G:Gx} {rest:List Stmt} {u:TS} {f:Ev}
end
section
variable {P:Program} {w:World} {K:PySem.W.Frag} {mg:Str->Option Value} {base:Heap} {N ps:List Str} {x q c:Str} {st:Stmt} {f C:Addr} {fd:FuncData} {k np:Nat} {e0:Ev} {fs:List (Str×Ev)}
end
end L3
namespace L3
open PySem PySem.Spec PyProof.Rows L2 PySem.W
unseal PEd PEf PTd PWd PAd PSd cI POd PGd eA PId PSx eN PTs PCd PCf
section
variable {X:Cx} {G:Gx} {e:Expr} {es:List Expr} {pos p:Pos} {fs:Fv} {k i np:Nat} {x:Str} {kI:List D->Res (List (Str×D))}
end
end L3
namespace L2
open PySem PySem.Spec PyProof.Rows
theorem qE:entryFor table "proto.unchain" = some Builtin.«proto.unchain» := entryFor_of_fast (by kernel_rfl)
section
variable {prog:Program} {w:World} {A:Around} {s:Shared} {E:Value->Shared->Prop}
theorem zAB {α:Type} {ea e:Addr} {oe:Obj} {vs:Array Value} {Q:α->Shared->Prop} (hh:A.handled=some (.ref ea)) (x:Ex2 s.heap ea) (hne:ea≠e) (he:s.heap.get? e=some oe) (hd:oe.data=.fields vs) (h2:2 < vs.size)
  (hE:E (.ref e) { s with heap:=s.heap.update e (Obj.mapFields (·.setIfInBounds 2 (.ref ea))) }):wpAny (model prog w) A (raiseNew (.ref e):Sem α) Q E s:=by
 unfold raiseNew
 refine wpAny_bind (wpAny_handled ?_)
 rw [hh]
 obtain ⟨o,us,g1,g2,g3⟩:=x
 have nz:(Value.ref ea != Value.ref e)=true:=by simp [hne]
 show wpAny _ _ (if (Value.ref ea != Value.ref e)=true then _ else _) _ _ _
 rw [if_pos nz]
 refine wpAny_bind (wpAny_holding (wpAny_runValue (codeAny_builtin qE ?_)))
 show wpAny _ _ (field (.ref ea) 2 >>= _) _ _ s
 refine wpAny_bind (wpAny_field g1 g2 g3 ?_)
 show wpAny _ _ (ret .none) _ _ s
 refine wpAny_pure ?_
 refine wpAny_bind ?_
 show wpAny _ _ (setField (.ref e) 2 (.ref ea)) _ _ _
 refine wpAny_setField he hd h2 ?_
 exact wpAny_throw hE
theorem tN {it l ea:Addr} {i:Nat} {items} {Q:Option Value->Shared->Prop} (hh:A.handled=some (.ref ea)) (x:Ex2 s.heap ea) (hne:ea≠it)
  (hit:s.heap.IsListIter it l i) (hl:s.heap.IsList l items) (hx:items[i]?=none)
  (hQ:∀ h',Heap.ExtBut it s.heap h'->Q none { s with heap:=h' }):wpAny (model prog w) A (pyNext (.ref it)) Q E s:=by
 obtain ⟨o,ho,hc,hd⟩:=id hit
 obtain ⟨ol,hol,_,nl,hdl⟩:=hl
 unfold pyNext
 refine wpAny_bind (wpAny_attempt (wpAny_callSpecial?_slot (name:=Str.ofString "__next__") hit.typeIs slot_listiter_next
  (wpAny_call_entry slot_listiter_next hit.typeIs entry_listiter_next ?_ (args_listiter_next _))))
 show wpAny _ _ (field (.ref it) 0 >>= _) _ _ s
 refine wpAny_bind (wpAny_field ho hd (x:=.ref l) rfl ?_)
 show wpAny _ _ (if (Value.ref l==Value.none)=true then _ else _) _ _ s
 rw [if_neg (show ¬ ((Value.ref l==Value.none)=true) from Bool.false_ne_true)]
 show wpAny _ _ (field (.ref it) 1 >>= _) _ _ s
 refine wpAny_bind (wpAny_field ho hd (x:=.int i 0) rfl ?_)
 show wpAny _ _ (seqItems? (.ref l) >>= _) _ _ s
 refine wpAny_bind (wpAny_seqItems hol hdl ?_)
 simp only [Int.toNat_natCast,hx]
 refine wpAny_bind (wpAny_rule (wpAny_bind (wpAny_setField ho hd (by simp) ?_)))
 show wpAny _ _ (newExc (.type "StopIteration") [] >>= _) _ _ _
 refine wpAny_bind ?_
 simp only [newExc,newTuple]
 refine wpAny_bind (wpAny_newObj_type ?_ (by size_fits))
 refine wpAny_bind (m:=firstArgMember _ _) (wpAny_of_eq (a:=Value.none) (by first | rfl | (simp only [firstArgMember];rfl)) ?_)
 refine wpAny_newObj_type ?_ (by size_fits)
 dsimp only
 generalize hB:(s.heap.update it (Obj.mapFields fun x=>x.setIfInBounds 0 Value.none)).push { cls:=.type "tuple", data:=.seq #[] }=B
 have eb:Heap.ExtBut it s.heap B:=hB ▸ (Heap.SameBut.update ..).extBut.push _
 generalize hN:(B.push _:Heap)=N
 have he:N.get? B.objs.size=some _:=hN ▸ Heap.get?_push_size _ rfl
 have kp:∀ b o,b≠it->s.heap.get? b=some o->N.get? b=some o:=fun b o hb e=>hN ▸ Heap.get?_push_of_some _ (eb b o hb e)
 have lt:∀ b o,b≠it->s.heap.get? b=some o->b≠B.objs.size:=fun b o hb e=>Nat.ne_of_lt (Heap.lt_size (eb b o hb e))
 have x':Ex2 N ea:=by
  obtain ⟨o',us,g1,g2,g3⟩:=x
  exact ⟨o',us,kp _ _ hne g1,g2,g3⟩
 have hn':ea≠B.objs.size:=by
  obtain ⟨o',us,g1,g2,g3⟩:=x
  exact lt _ _ hne g1
 refine zAB (s:={ s with heap:=N }) (A:=A.in1) hh x' hn' he rfl (by rw [Array.size_append];exact Nat.lt_of_lt_of_le (by decide:2 < 6) (Nat.le_add_right _ _)) ?_
 have he':=Heap.get?_update_self (Obj.mapFields (·.setIfInBounds 2 (.ref ea))) he (Obj.isFreed_of_fields (Obj.data_mapFields rfl _))
 refine wpAny_bind (wpAny_isInstance (T := "StopIteration") (b:=true) ⟨_,he',Obj.cls_mapFields ..⟩ isSubtype_stop ?_)
 exact wpAny_pure (hQ _ fun b o hb e=>(Heap.get?_update_other _ _ (Ne.symm (lt b o hb e))).trans (kp b o hb e))
theorem Walks.listE {ea:Addr} (hh:A.handled=some (.ref ea)) (I ax:Addr) (hne:ax≠I) (hea:ea≠I) (items:Array Value):
  Walks prog w A I [I,ax,ea] [I] items.size (fun i v=>items[i]?=some v) (fun i h=>h.IsListIter I ax i/\h.IsList ax items/\Ex2 h ea) where
 sub:=fun b hb=>by simp at hb;simp [hb]
 frame:=fun _ _ _ st hk=>⟨st.1.at fun o e=>hk I (by simp) o e,st.2.1.at fun o e=>hk ax (by simp) o e,by
  obtain ⟨o,vs,g1,g2,g3⟩:=st.2.2
  exact ⟨o,vs,hk ea (by simp) o g1,g2,g3⟩⟩
 item:=fun i s Q E hi st hQ=>by
  refine wpAny_pyNext_list_item st.1 st.2.1 (x:=items[i]) (by simp [hi]) fun h' hit' hs'=>?_
  refine hQ _ h' s.toks (by simp [hi]) ⟨hit',st.2.1.extBut hs'.extBut hne,?_⟩ fun b o hb e=>hs'.extBut b o (fun h=>hb (by simp [h])) e
  obtain ⟨o,vs,g1,g2,g3⟩:=st.2.2
  exact ⟨o,vs,hs'.extBut _ _ hea g1,g2,g3⟩
 done:=fun s Q E st hQ=>tN hh st.2.2 hea st.1 st.2.1 (by simp) fun h' he'=>hQ h' s.toks fun b o hb e=>he' b o (fun h=>hb (by simp [h])) e
 self:=fun _ _ _ _ st hQ=>wpAny_pyIter_listiter st.1 hQ
end
end L2
namespace L3
open PySem PySem.Spec PyProof.Rows L2 PySem.W
unseal PEd PEf PTd PWd PAd PSd cI POd PGd eA PId PSx eN PTs PCd PCf
structure GoodE (X:Cx) (G:Gx) (ea:Addr):Prop where
 u:X.A.units+64 < cLine
 hd:X.A.handled=some (.ref ea)
 st:∃ C,G.B ea=some (.ext (lR ea C))
section
variable {K:PySem.W.Frag} {mg:Str->Option Value} {B Bi Hi H:Hp} {σ:St} {ρ:Rho} {a C:Addr}
theorem Rel.inE (R:Rel K mg B Bi Hi H σ ρ) (hB:B a=none) (ha:H a=some (.ext (lR a C))) (_:Same Bi Hi) (hi:Hi a=none):Rel K mg (upd B a (.ext (lR a C))) Bi Hi H σ ρ where
 len:=R.len
 ext:=⟨R.ext.i,⟨fun b o z=>by
   by_cases w:b=a
   ·subst w;rw [aH] at z;cases z;exact .inl ha
   ·rw [aO w] at z;exact R.ext.h.k b o z,fun P z=>R.ext.h.t P (by
    obtain ⟨ps,e,t,k⟩:=z
    have h1:P≠a:=fun w=>by rw [w,aH] at e;cases e
    refine ⟨ps,by rw [aO h1] at e;exact e,t,fun pos cv q=>?_⟩
    obtain ⟨c,oc,vs,tk,u,r1,r2,r3⟩:=k pos cv q
    have h2:c≠a:=fun w=>by rw [w,aH] at r2;cases r2
    rw [aO h2] at r2
    exact ⟨c,oc,vs,tk,u,r1,r2,r3⟩)⟩,R.ext.s,fun b z w=>by
   by_cases y:b=a
   ·rw [y] at w;exact absurd hi w
   ·rw [aO y];exact R.ext.n b z w⟩
 slot:=fun j s q=>by
  have S:=R.slot j s q
  cases s with
  | own ds=>
   obtain ⟨b,xs,p,g1,g2,g3,g4⟩:=S
   have hb:b≠a:=fun z=>by rw [z,ha] at g1;cases g1
   exact ⟨b,xs,p,g1,g2,by rw [aO hb];exact g3,g4⟩
  | _=>exact S
 dist:=R.dist
theorem Rel.outE (hB:B a=none) (R:Rel K mg (upd B a (.ext (lR a C))) Bi Hi H σ ρ):Rel K mg B Bi Hi H σ ρ where
 len:=R.len
 ext:=⟨R.ext.i,⟨fun b o z=>R.ext.h.k b o (by rw [aO (aR z hB)];exact z),fun P z=>R.ext.h.t P (z.put (fun ps y=>by rw [hB] at y;cases y) (fun o u y=>by rw [hB] at y;cases y))⟩,R.ext.s,fun b z w=>by
   have y:=R.ext.n b z w
   by_cases v:b=a
   ·rw [v];exact hB
   ·rw [aO v] at y;exact y⟩
 slot:=fun j s q=>by
  have S:=R.slot j s q
  cases s with
  | own ds=>
   obtain ⟨b,xs,p,g1,g2,g3,g4⟩:=S
   have hb:b≠a:=fun z=>by rw [z,aH] at g3;cases g3
   exact ⟨b,xs,p,g1,g2,by rw [aO hb] at g3;exact g3,g4⟩
  | _=>exact S
 dist:=R.dist
end
section
variable {X:Cx} {G:Gx} {k:Nat} {fb fh:Sv} {body suite:List Stmt} {b₀:Stmt} {ce n:Str} {np hpos pos:Pos} {i:Nat} {tb:List Str}
theorem zFS (W:Good X G k) (O:Own X) (hT:∀ c,tb.contains c=true->Cat X.K X.mg ce c) (hg:Gl X ce) (hN:X.N.Nodup) (hi:X.N[i]?=some n) (hk:X.env.scope.names.lookup n=some .local)
  (hb:eN X G body fb) (hh:∀ ea G',GoodE (iI X ea) G' ea->cI (iI X ea) G' (b₀::suite) fh) (hd:(ce==("__debug__" : Str))=false:=by decide):
  PSd X G (.Try body [.ExceptHandler (some (.Name ce np)) (some n) (b₀::suite) hpos] [] [] pos) (zHC tb i fb fh):=by
 intro pins s σ H E I q
 obtain ⟨ρ,Hi,R,h⟩:=q
 unfold zHC at h
 have hno:fb ρ≠.no:=fun z=>by rw [z] at h;exact h
 refine wpAny_Try_except ?_
 refine wpAny_mono (hb pins s σ H E ρ Hi _ I R hno ?_ ?_) (fun f s1 q=>?_) fun _ _ z=>z
 ·cases z:fb ρ with
  | no=>exact absurd z hno
  | err c=>trivial
  | ok f=>rw [z] at h;exact h
 ·rintro c ev s' z ⟨s1,H1,ea,cls,Hi',H',rfl,I1,hc,F,e1,sm⟩
  rw [z] at h
  have h:Fin X G Hi E (if tb.contains c=true then (match fh (ρ.set i (.exc c)) with
   | .ok (.nx ρ')=>.ok (.nx (ρ'.set i .un))
   | _=>.no) else .no):=h
  by_cases htb:tb.contains c=true
  ·rw [if_pos htb] at h
   obtain ⟨C,CE,m1,m2,T1,T2,T3⟩:=hT c htb
   rw [m1] at hc
   cases hc
   obtain ⟨B,a0,hf,cov⟩:=F.fly
   have hst:X.stack=X.env::X.outer:=O.stk
   have hfr:X.A.frames=some (X.env::X.outer):=by rw [I1.ok.frames,hst]
   have hf1:=hf
   rw [hst] at hf1
   refine zI hfr O.fr hf1 F.ctx fun h4 held4 up4 x4=>?_
   refine zGY held4 x4 fun h5 fly5 up5 x5=>?_
   have up5':=up4.trans up5
   have fly5':Heap.FlyingW B X.stack ea (.ref C) a0 h5:=by rw [hst];exact fly5
   have I5:=Fly.stay I1 F hf cov fly5' up5' (t':=s'.toks)
   have tyAt:∀ {h6:Heap},Heap.FlyingW B X.stack ea (.ref C) a0 h6->zEU ea C h6:=fun z=>z.there
   refine wpAny_handleBy_cons (codeAny_handlers_test (nV (X:=iI X ea) (I5.clause ea) hg m2 ?_ hd)) (by intro q;cases q)
   refine zAL T2 T3 I5.kIn (tyAt fly5') ?_
   refine codeAny_handlers_suite_as ?_
   refine sW fly5' x5 fun h6 fly6 up6 x6=>?_
   have I6:=Fly.stay I1 F hf cov fly6 (up5'.trans up6) (t':=s'.toks)
   have hnew:s1.heap.get? ea=none:=F.new
   have here:∀ {b:Addr} {o:Obj},s1.heap.get? b=some o->b≠ea:=fun {b o} e z=>by rw [z,hnew] at e;cases e
   have hs0:X.s₀.heap.get? ea=none:=by
    cases q:X.s₀.heap.get? ea with
    | none=>rfl
    | some o=>
     obtain ⟨o1,e1⟩:=I1.there0 O q
     rw [hnew] at e1;cases e1
   have hloc:ea≠X.env.locals:=by
    obtain ⟨_,⟨o,_,_,ho,_⟩,_⟩:=I1.loc
    exact Ne.symm (here ho)
   have hcell:∀ x c,X.env.cells.lookup x=some c->c≠ea:=fun x c e=>by
    obtain ⟨v,o,ho,_⟩:=I1.cell x c e
    exact here ho
   have hpin:∀ p∈X.pn++pins,p.1≠ea:=fun p hp=>here (I1.pin p hp).1
   obtain ⟨oe,vs,q1,q2,q3,_⟩:=fly6.first
   have I7:=I6.track (o:=.ext (lR ea C)) F.ne hs0 hloc hcell hpin ⟨⟨oe,vs,q1,q2,q3,by
    obtain ⟨o2,vs2,y1,y2,y3⟩:=x6
    have y1':h6.get? ea=some o2:=y1
    have q1':h6.get? ea=some oe:=q1
    rw [y1'] at q1';cases q1'
    rw [y2] at q3;cases q3
    exact y3⟩,⟨oe,q1⟩,fun g1 g2 ⟨o,vs,p1,p2,p3⟩ k=>⟨o,vs,k o p1,p2,p3⟩⟩
   have hB:G.B ea=none:=by
    cases q:G.B ea with
    | none=>rfl
    | some o=>
     obtain ⟨o',z2⟩:∃ o',H1 ea=some o':=by
      rcases (R.ext.h.trans sm).k _ _ q with z | ⟨_,ps',_,z⟩
      ·exact ⟨_,z⟩
      ·exact ⟨_,z⟩
     obtain ⟨ob,z3⟩:=(I1.hok ea o' z2).here
     rw [hnew] at z3;cases z3
   have R7:=(R.grow e1).setExc (i:=i) F.ne hB m1
   refine fY I7 hN hi (.inl hk) (v:=.ref ea) rfl (fun s7 I8=>?_) (.inr hk)
   have WH:GoodE (iI X ea) { G0 G with B:=upd G.B ea (.ext (lR ea C)) } ea:=⟨W.u,rfl,C,aH⟩
   have R8:=Rel.inE (a:=ea) (C:=C) R7 hB aH (R.ext.i.trans e1.i) (show Hi' ea=none from (R.grow e1).s.none F.ne)
   have hfin:∃ ρ',fh (ρ.set i (.exc c))=.ok (.nx ρ')/\Fin X G Hi E (.ok (.nx (ρ'.set i .un))):=by
    cases zz:fh (ρ.set i (.exc c)) with
    | no=>rw [zz] at h;exact h.elim
    | err c'=>rw [zz] at h;exact h.elim
    | ok fl=>
     rw [zz] at h
     cases fl with
     | nx ρ'=>exact ⟨ρ',rfl,h⟩
     | brk ρ'=>exact h.elim
     | ctn ρ'=>exact h.elim
     | ret r=>exact h.elim
   obtain ⟨ρ',zf,hend⟩:=hfin
   have hE:=hh ea _ WH pins s7 (σ.set i (some (.ref ea))) _ { nx:=fun σ' H2=>E.nx (σ'.set i none) H2,rt:=fun _ _=>False } (I8.clause ea) ⟨ρ.set i (.exc c),Hi',R8,by
    rw [zf]
    exact fun σ2 Hi2 H2 s2 R2=>hend (σ2.set i none) Hi2 H2 (e1.i.trans s2) (Rel.gone (i:=i) (show fN X G Hi2 H2 σ2 ρ' from Rel.outE hB R2))⟩
   refine wpAny_mono hE (fun fl s8 q=>?_) fun _ _ z=>False.elim z
   cases fl with
   | next=>
    obtain ⟨σ2,H2,I9,q⟩:=q
    exact zEv (Inv.unclause I.ok I9) hN hi hk fun s9 I10=>⟨_,H2,I10,q⟩
   | ret v=>obtain ⟨_,_,_,_,_,q⟩:=q;exact q.elim
   | brk=>obtain ⟨_,_,_,q⟩:=q;exact q.elim
   | cont=>obtain ⟨_,_,_,q⟩:=q;exact q.elim
  ·rw [if_neg htb] at h;exact h.elim
 ·cases f with
  | next=>exact wpAny_execs_nil q
  | ret v=>exact q
  | brk=>exact q
  | cont=>exact q
end
section
variable {X:Cx} {G:Gx} {elt iter:Expr} {x:Str} {px pos:Pos} {ifs:List Expr} {scope:Scope} {ev:Ev} {t:Tv} {f:Ev} {k:Nat}
theorem GoodE.ex {ea:Addr} {Y:Cx} {pins:List (Addr×Obj)} {σ:St} {Hi H:Hp} {s:Shared} (W:GoodE X G ea) (e:Ext G.Bi G.B Hi H) (I:Inv Y pins σ H s):Ex2 s.heap ea/\∃ C,H ea=some (.ext (lR ea C)):=by
 obtain ⟨C,h⟩:=W.st
 have h1:=e.h.at h
 obtain ⟨⟨o,vs,g1,_,g3,g4⟩,_⟩:=I.hok ea _ h1
 exact ⟨⟨o,vs,g1,g3,g4⟩,C,h1⟩
structure TurnX (X:Cx) (G:Gx) (tg:Expr) (J:It) (fp:List Addr) (it:Addr) (tn:Nat->Heap->Prop):Prop where
 item:∀ (Y:Cx),Y.prog=X.prog->Y.w=X.w->Y.K=X.K->Y.A=X.A->∀ (i:Nat) (pins:List (Addr×Obj)) (s:Shared) (σ:St) (H:Hp) (E:Value->Shared->Prop),(∃ Hi,Ext G.Bi G.B Hi H)->Inv Y pins σ H s->(∀ b∈fp,jR Y pins H b)->tn i s.heap->J.go i H->
  wpAny (model X.prog X.w) X.A (pyNext (.ref it)) (fun r s1=>∃ u,r=some u/\
   wpAny (model X.prog X.w) X.A (letOwnedTupleGo tg (.ref it) u) (fun _ s2=>∃ x H',Inv Y pins σ H' s2/\cD x u/\J.yld i H x H'/\tn (i+1) s2.heap/\∀ b∈fp,H' b=none) E s1) E s
 done:∀ (Y:Cx),Y.prog=X.prog->Y.w=X.w->Y.K=X.K->Y.A=X.A->∀ (i:Nat) (pins:List (Addr×Obj)) (s:Shared) (σ:St) (H:Hp) (E:Value->Shared->Prop),(∃ Hi,Ext G.Bi G.B Hi H)->Inv Y pins σ H s->(∀ b∈fp,jR Y pins H b)->tn i s.heap->J.stop i H->
  wpAny (model X.prog X.w) X.A (pyNext (.ref it)) (fun r s1=>r=none/\Inv Y pins σ H s1) E s
theorem yC {ea:Addr} (W:GoodE X G ea) {tg:Expr} (a it:Addr):TurnX X G tg (Itl X.K a) [it] it (fun i h=>h.IsListIter it a i) where
 item:=by
  intro Y hP hw hK hA i pins s σ H E he I hf st hg
  rw [<-hK] at hg ⊢
  rw [<-hP,<-hw]
  obtain ⟨xs,x,hq,hx⟩:=hg
  obtain ⟨its,rv,p,hz⟩:=I.list hq
  obtain ⟨u,hu,ru⟩:=rv.get hx
  obtain ⟨f0,f1,f2,f3,f4,f5⟩:=hf it (by simp)
  refine wpAny_pyNext_list_item st p.isList (x:=u) (by simpa using hu) fun h' st' sb=>?_
  have I1:Inv Y pins σ H { s with heap:=h' }:=I.turned (t':=s.toks) (fun b o hb e=>(sb.2 b hb).trans e) f0 f1 f3 f4 f5
  obtain ⟨o,e,c,d⟩:=id st'
  exact ⟨u,rfl,zCi (s:={ s with heap:=h' }) e c d (by decide) ⟨x,H,I1,ru,⟨rfl,fun ys hy=>by rw [I.list_inj hy hq];exact hx⟩,st',fun b hb=>(hf b hb).1⟩⟩
 done:=by
  intro Y hP hw hK hA i pins s σ H E he I hf st hg
  obtain ⟨Hi,he⟩:=he
  obtain ⟨x2,C,hC⟩:=W.ex he I
  rw [<-hK] at hg
  obtain ⟨xs,hq,hx⟩:=hg
  obtain ⟨its,rv,p,hz⟩:=I.list hq
  obtain ⟨f0,f1,f2,f3,f4,f5⟩:=hf it (by simp)
  have hl:=rv.length
  exact tN W.hd x2 (fun z=>by rw [z,f0] at hC;cases hC) st p.isList (by simp;omega) fun h' eb=>⟨rfl,I.turned (t':=s.toks) (fun b o hb e=>eb b o hb e) f0 f1 f3 f4 f5⟩
theorem zEW {ea:Addr} (W:GoodE X G ea) (h:PEd X G iter ev):∀ (pins:List (Addr×Obj)) (s:Shared) (σ:St) (H:Hp) (R:It->Hp->Prop),Inv X pins σ H s->tIv X G (zFI ev) σ H R->
  wpAny (model X.prog X.w) X.A (eval iter X.env) (fun v s1=>wpAny (model X.prog X.w) X.A (pyIter v) (fun itv s2=>∃ (it:Addr) (fp:List Addr) (tn:Nat->Heap->Prop) (J:It) (H':Hp),itv=.ref it/\Inv X pins σ H' s2/\Turn X.prog X.w X.K (.Name x px) J fp it tn/\TurnX X G (.Name x px) J fp it tn/\tn 0 s2.heap/\(∀ b∈fp,jR X pins H' b)/\R J H') X.xe s1) X.xe s:=by
 intro pins s σ H R I q
 obtain ⟨ρ,Hi,R0,ou⟩:=q
 have key:=h pins s σ H (fun v H1=>∃ a xs,v=.ref a/\SqL X.K H1 a xs/\R (Itl X.K a) H1) I (rQ R0 ou fun v d Hi1 H1 e1 R1 r1 o1=>by
  cases d with
  | lst ds=>
   obtain ⟨a,xs,rfl,h1,h2⟩:=r1.lstI
   exact ⟨a,xs,rfl,bC R1.s h1,o1.here R1.s _ (nF h1 h2)⟩
  | _=>exact o1.elim)
 refine thn key fun v s1 ⟨x,H1,I1,r1,q1⟩=>?_
 obtain ⟨a,xs,e,hq,q⟩:=q1
 subst e
 cases r1
 obtain ⟨its,rv,p,hz⟩:=I1.list hq
 refine wpAny_pyIter_list p.isList ?_
 refine ⟨s1.heap.objs.size,[s1.heap.objs.size],_,_,H1,rfl,I1.kept (t':=s1.toks) fun b o e=>Heap.get?_push_of_some _ e,nZ a _,yC W a _,⟨_,Heap.get?_push_size _ rfl,rfl,rfl⟩,fun b hb=>?_,q⟩
 have e:b=s1.heap.objs.size:=by simpa using hb
 subst e
 exact I1.fpOk (Nat.le_refl _) (I1.hok.fresh (Nat.le_refl _))
theorem xR {ea:Addr} (W:GoodE X G ea) (Bk:BlkOk X x scope) (hN:X.N.Nodup) (h0:("" : Str)∉X.N) (hx0:x≠("" : Str)) (hi:PEd X G iter ev)
  (hb:∀ (C:Addr) (s₂:Shared) (H₂:Hp) (fp:List Addr) (G':Gx),PTs (cxC X x scope C s₂ H₂ fp) G' ifs t/\PEd (cxC X x scope C s₂ H₂ fp) G' elt f)
  (hs:∀ x,foldedSetIterable iter X.env x=pure x:=by intro _;rfl)
  {pins:List (Addr×Obj)} {s:Shared} {σ:St} {H Hi:Hp} {ρ:Rho} {use:Option (Value->Sem Unit)} {Q':Value->Shared->Prop} {Qa:Addr->Hp->Prop} {cpos:Pos} (I:Inv X pins σ H s) (R:fN X G Hi H σ ρ)
  (ou:Out G Hi H ((rB (zFI ev) t f) ρ) fun ds Hi' H'=>∀ a,zAJ X.K H Hi' H' a ds->Qa a H') (hend:zIb X pins σ use Q' Qa):
  wpAny (model X.prog X.w) X.A (comprehension (.ListComp elt [⟨.Name x px,iter,ifs,0⟩] scope pos) scope X.env cpos (newList []) false (eval iter X.env) use) Q' X.xe s:=by
 refine wpAny_comprehension_free (use:=use) rfl hs (yT (Bk.cl I)) Bk.kind Bk.names ?_
 refine thn (zEW (x:=x) (px:=px) W hi pins s σ H (fun J H2=>∃ ds Hi2,Ext Hi H Hi2 H2/\oM X.K Hi2 J ds/\Out G Hi2 H2 (if ds.length<=16777215 then dJ t f ρ ds else .no) fun ds Hi' H'=>∀ a,zAJ X.K H Hi' H' a ds->Qa a H') I
  ⟨ρ,Hi,R,(Out.bind ou).imp fun ds Hi2 H2 e2 o2 J gv=>⟨ds,Hi2,e2,gv,o2⟩⟩) fun v s1 h1=>thn h1 fun itv s2 h2=>?_
 obtain ⟨itA,fp,tn,J,H2,rfl,I2,T,U,st2,f2,ds,Hi2,e2,gv,ou2⟩:=h2
 have hlen:ds.length<=16777215:=by
  by_cases hlen:ds.length<=16777215
  ·exact hlen
  ·rw [if_neg hlen] at ou2;exact ou2.elim
 rw [if_pos hlen] at ou2
 cases hes:dJ t f ρ ds with
 | no=>rw [hes] at ou2;exact ou2.elim
 | err c=>exact absurd hes mK
 | ok es=>
  rw [hes] at ou2
  have R2:fN X G Hi2 H2 σ ρ:=R.grow e2
  refine wpAny_newObj_type (wpAny_newFunctionEnv Bk.cell (by intro y hy;simp at hy) (fun h₁ hns₁ hsb₁=>?_) Bk.kind)
  dsimp only at hns₁ hsb₁ ⊢
  generalize hH2:s2.heap.push { cls:=.type "list", dict:=none,data:=.seq ([]:List Value).toArray }=HP at hns₁ hsb₁ ⊢
  have hC:HP.objs.size=s2.heap.objs.size+1:=by rw [<-hH2,Heap.size_push]
  have hDC:s2.heap.objs.size≠HP.objs.size:=by rw [hC];omega
  have ltC:∀ {b:Addr} {o:Obj},s2.heap.get? b=some o->b≠HP.objs.size:=fun e=>by rw [hC];exact Nat.ne_of_lt (Nat.lt_succ_of_lt (Heap.lt_size e))
  have old:∀ b o,s2.heap.get? b=some o->h₁.get? b=some o:=fun b o e=>hsb₁.extBut b o (ltC e) (Heap.get?_push_of_some _ (hH2 ▸ Heap.get?_push_of_some _ e))
  have hacc:h₁.get? s2.heap.objs.size=some { cls:=.type "list", data:=.seq ([]:List Value).toArray 0 }:=hsb₁.extBut _ _ hDC (Heap.get?_push_of_some _ (hH2 ▸ Heap.get?_push_size _ rfl))
  have hfl:∀ b∈fp,b < s2.heap.objs.size:=fun b hb=>by obtain ⟨o,e,_⟩:=T.obj _ _ st2 b hb;exact Heap.lt_size e
  have IE:=zGT (t:=s2.toks+([]:List (Str×Value)).length) I2 Bk f2 hfl (Nat.le_refl _) (by rw [hC];omega) hDC old hacc hns₁
  have sub:=lI scope.names [] (Bk.cl I2) (fun y c e=>nomatch e)
  have H2D:H2 s2.heap.objs.size=none:=I2.hok.fresh (Nat.le_refl _)
  have HD:H s2.heap.objs.size=none:=e2.h.none H2D
  have Hi2D:Hi2 s2.heap.objs.size=none:=e2.s.none H2D
  generalize hX:cxC X x scope HP.objs.size s2 H2 fp=Y at IE
  obtain ⟨hts,hel⟩:=(hX ▸ hb HP.objs.size s2 H2 fp ⟨G.B,G.Bi,fun _ _=>False⟩:PTs Y ⟨G.B,G.Bi,fun _ _=>False⟩ ifs t/\PEd Y ⟨G.B,G.Bi,fun _ _=>False⟩ elt f)
  have stat:∀ {H':Hp},(∀ b∈fp,H' b=none)->∀ b∈fp,jR Y pins H' b:=fun hn b hb=>by
   subst hX
   refine ⟨hn b hb,?_,fun z=>?_,.inl hb,fun y c e=>(f2 b hb).2.2.2.2.1 y c (sub y c e),(f2 b hb).2.2.2.2.2⟩
   ·show b≠HP.objs.size
    rw [hC];exact Nat.ne_of_lt (Nat.lt_succ_of_lt (hfl b hb))
   ·rcases List.mem_cons.mp (I2.stkSub b z) with w | w
    ·exact (f2 b hb).2.1 w
    ·exact (f2 b hb).2.2.1 w
  have YN:Y.N.Nodup:=by subst hX;exact sA hN h0 hx0
  have Yx:Y.N[σ.length]?=some x:=by
   subst hX
   show (X.N.map (msk x)++[x])[σ.length]?=some x
   rw [List.getElem?_append_right (by rw [List.length_map,I2.len];omega),List.length_map,I2.len,Nat.sub_self]
   rfl
  have Yl:Y.env.scope.names.lookup x=some .local:=by subst hX;exact lookup_relabel_local Bk.loc
  have Ye:Y.env=compEnvC scope (uB X.env scope.names []) HP.objs.size X.env:=by subst hX;rfl
  have Yxe:∀ e s,¬ Y.xe e s:=by subst hX;exact fun _ _ h=>h
  have tn1:tn 0 h₁:=T.keep _ _ _ st2 fun b _ o e=>old b o e
  have dX:∀ s3:Shared,s3={ s2 with heap:=h₁,toks:=s2.toks+([]:List (Str×Value)).length }->
    codeAny (model X.prog X.w) X.A (.compLoop (.ListComp elt [⟨.Name x px,iter,ifs,0⟩] scope pos) 0 (.ref itA) (.ref s2.heap.objs.size) Y.env) (compPost (model X.prog X.w) X.A X.xe use Q' (.ref s2.heap.objs.size) HP.objs.size) s3:=by
   rintro s3 rfl
   subst hX
   have fr0:∀ b∈fp,upd H2 s2.heap.objs.size (.lst []) b=none:=fun b hb=>by
    rw [aO (Nat.ne_of_lt (hfl b hb))]
    exact (f2 b hb).1
   refine codeAny_compLoop_tests (fun n s'=>∃ c:CW,n=ds.length - c.i/\CS (cxC X x scope HP.objs.size s2 H2 fp) pins σ tn fp Hi2 H2 s2.heap.objs.size 1 (fun i=>dJ t f ρ (ds.drop i)) es c s') ?_ ds.length
    ⟨⟨0,[none],_,Hi2,[],[],es⟩,rfl,⟨IE,rfl,tn1,fr0,(Ext.refl e2.s).trans (Ext.newF e2.s H2D),aH,Hi2D,.nil,Nat.le_refl _,hes,rfl⟩⟩
   ·rintro n s3 ⟨⟨i,vv,H3,Hi3,ys,done,rest⟩,rfl,I3,wd3,st3,fr3,e3,hD3,hiD3,rd3,hl3,hr3,hes3⟩
    dsimp only at I3 wd3 st3 fr3 e3 hD3 hiD3 rd3 hl3 hr3 hes3 ⊢
    obtain ⟨v,rfl⟩:∃ v,vv=[v]:=by
     match vv,wd3 with
     | [v],_=>exact ⟨v,rfl⟩
    obtain ⟨w1,w2⟩:=gv Hi3 H3 e3.i e3.s i
    have lift:∀ {α:Type} {m:Sem α} {Q':α->Shared->Prop} {E:Value->Shared->Prop} {s':Shared},wpAny (model X.prog X.w) X.A m Q' (cxC X x scope HP.objs.size s2 H2 fp).xe s'->wpAny (model X.prog X.w) X.A m Q' E s':=fun h=>wpAny_mono h (fun _ _ z=>z) fun e s z=>(Yxe e s z).elim
    by_cases hlt:i < ds.length
    ·obtain ⟨d,hd⟩:∃ d,ds[i]?=some d:=⟨_,List.getElem?_eq_getElem hlt⟩
     obtain ⟨go,yl⟩:=w2 d hd
     have e4:ds.drop i=d::ds.drop (i+1):=by
      rw [List.getElem?_eq_getElem hlt] at hd
      cases hd
      exact List.drop_eq_getElem_cons hlt
     rw [e4] at hr3
     refine thn (U.item (cxC X x scope HP.objs.size s2 H2 fp) rfl rfl rfl rfl i pins s3 _ H3 _ ⟨Hi3,R2.ext.trans e3⟩ I3 (stat fr3) st3 go) fun r s4 ⟨u,hru,h4⟩=>?_
     subst hru
     refine zA h4 fun s5 h5=>?_
     obtain ⟨xv,H5,I5,r5,y5,st5,fr5⟩:=h5
     obtain ⟨Hi5,e5,rd5⟩:=yl xv H5 y5
     have I5':=I5.pinned (stat fr5) (T.obj _ _ st5)
     refine wpAny_assign_Name (fY I5' YN Yx (.inl Yl) r5 (fun s6 I6=>?_) (.inr Yl))
     have es6:(σ++[v]).set σ.length (some xv)=σ++[some xv]:=by rw [List.set_append_right _ _ (Nat.le_refl _),Nat.sub_self];rfl
     rw [es6] at I6
     have E5:Ext Hi2 H2 Hi5 H5:=e3.trans e5
     have R5:fN (cxC X x scope HP.objs.size s2 H2 fp) ⟨G.B,G.Bi,fun _ _=>False⟩ Hi5 H5 (σ++[some xv]) (ρ++[.val d]):=Rel.snoc (R2.grow E5) rd5
     obtain ⟨hD5,hiD5⟩:=e5.out hD3 hiD3
     have rd5':=rd3.mono e5.i
     have again:∀ {H8 Hi8:Hp} {ys':List V} {done' rest':List D} {s8:Shared},Inv (cxC X x scope HP.objs.size s2 H2 fp) (pins++lK fp s5.heap) (σ++[some xv]) H8 s8->Ext Hi2 H2 Hi8 H8->H8 s2.heap.objs.size=some (.lst ys')->Hi8 s2.heap.objs.size=none->IsDs X.K Hi8 ys' done'->done'.length<=i+1->
       dJ t f ρ (ds.drop (i+1))=.ok rest'->es=done'++rest'->∃ m,m < ds.length - i/\∃ c:CW,m=ds.length - c.i/\CS (cxC X x scope HP.objs.size s2 H2 fp) pins σ tn fp Hi2 H2 s2.heap.objs.size 1 (fun i=>dJ t f ρ (ds.drop i)) es c s8:=fun {H8 Hi8 ys' done' rest' s8} I8 E8 a1 a2 a3 a4 a5 a6=>by
      refine ⟨ds.length - (i+1),by omega,⟨i+1,[some xv],H8,Hi8,ys',done',rest'⟩,rfl,⟨I8.unpinned,rfl,T.keep _ _ _ st5 fun b hb o e=>(I8.pin (b,o) (List.mem_append_right _ (List.mem_append_right _ (cN hb e)))).1,fun b hb=>?_,E8,a1,a2,a3,a4,a5,a6⟩⟩
      obtain ⟨o,e,_⟩:=T.obj _ _ st5 b hb
      exact (I8.pin (b,o) (List.mem_append_right _ (List.mem_append_right _ (cN hb e)))).2.1
     rcases pZ hr3 with ⟨ht,hr4⟩ | ⟨ht,e,es',hf,hr4,hee⟩
     ·refine lift (thn (hts _ s6 _ H5 (fun b H'=>b=false/\∃ Hi',Ext Hi5 H5 Hi' H') I6 ⟨_,Hi5,R5,by rw [ht];exact fun Hi' H' e=>⟨rfl,Hi',e⟩⟩) fun b s7 h7=>?_)
      obtain ⟨H7,I7,rfl,Hi7,e7⟩:=h7
      obtain ⟨hD7,hiD7⟩:=e7.out hD5 hiD5
      exact again I7 (E5.trans e7) hD7 hiD7 (rd5'.mono e7.i) (by omega) hr4 hes3
     ·refine lift (thn (hts _ s6 _ H5 (fun b H'=>b=true/\∃ Hi',Ext Hi5 H5 Hi' H') I6 ⟨_,Hi5,R5,by rw [ht];exact fun Hi' H' e=>⟨rfl,Hi',e⟩⟩) fun b s7 h7=>?_)
      obtain ⟨H7,I7,rfl,Hi7,e7⟩:=h7
      obtain ⟨hD7,hiD7⟩:=e7.out hD5 hiD5
      simp only [if_true]
      refine lift (thn (hel _ s7 _ H7 (fun w H'=>∃ Hi',Ext Hi7 H7 Hi' H'/\IsD X.K Hi' w e) I7 ⟨_,Hi7,R5.grow e7,by rw [hf];exact fun Hi' H' ee w hw=>⟨Hi',ee,hw⟩⟩) fun u8 s8 h8=>?_)
      obtain ⟨w8,H8,I8,r8,Hi8,e8,rw8⟩:=h8
      obtain ⟨hD8,hiD8⟩:=e8.out hD7 hiD7
      have rdy:IsDs X.K Hi8 ys done:=(rd5'.mono e7.i).mono e8.i
      refine lift (thn (jL (X:=(cxC X x scope HP.objs.size s2 H2 fp)) _ s8 _ H8 (.ref s2.heap.objs.size) [w8] (.ref s2.heap.objs.size) [u8] (fun _ H'=>H'=upd H8 s2.heap.objs.size (.lst (ys++[w8]))) I8 rfl (.cons r8 .nil) ⟨_,ys,w8,rfl,rfl,hD8,?_,rfl⟩) fun _ s9 h9=>?_)
      ·rw [rdy.length]
       exact Nat.lt_of_le_of_lt hl3 (Nat.lt_of_lt_of_le hlt (Nat.le_trans hlen (by decide)))
      ·obtain ⟨_,H9,I9,_,rfl⟩:=h9
       refine again I9 (Ext.rewrite ((E5.trans e7).trans e8) H2D hiD8 ⟨_,hD8⟩) aH hiD8 (rdy.snoc rw8) (by rw [List.length_append];exact Nat.succ_le_succ hl3) hr4 ?_
       rw [hes3,hee,List.append_assoc];rfl
    ·rw [List.drop_eq_nil_of_le (by omega),dJ] at hr3
     cases hr3
     refine thn (U.done (cxC X x scope HP.objs.size s2 H2 fp) rfl rfl rfl rfl i pins s3 _ H3 _ ⟨Hi3,R2.ext.trans e3⟩ I3 (stat fr3) st3 (w1 (by omega))) fun r s4 ⟨hrn,I4⟩=>?_
     subst hrn
     obtain ⟨m4,hn4,_⟩:=I4.loc
     have fC:H3 HP.objs.size=none:=I4.free
     have nC:∀ b u,H3 b=some u->b≠HP.objs.size:=fun b u e z=>by rw [z,fC] at e;cases e
     have U4:=I4.base
     refine hend HP.objs.size s2.heap.objs.size m4 s4 H3 hn4 (fun h' hs'=>?_) (I2.fpOk (by rw [hC];omega) fC) ?_
     ·have kp:∀ b o,b≠HP.objs.size->s4.heap.get? b=some o->h'.get? b=some o:=fun b o hb e=>hs'.extBut b o hb e
      refine Inv.call' I2 (ch:=fp) I4.os ⟨fun b o e n hb hx=>kp b o (ltC e) (U4.keep b o e n hb hx),fun b o e n hb hx=>?_,U4.free,fun b o e hx=>?_,U4.tups,U4.frzs,U4.tbls⟩ (fun b u e=>?_) I4.bare (fun b hb=>⟨(f2 b hb).2.2.2.1,(f2 b hb).2.1,(f2 b hb).2.2.2.2.1,(f2 b hb).2.2.2.2.2⟩)
      ·obtain ⟨sl,q⟩:=U4.slot b o e n hb hx
       exact ⟨sl,kp b _ (ltC e) q⟩
      ·obtain ⟨o',q⟩:=U4.there b o e hx
       exact ⟨o',kp b _ (ltC e) q⟩
      ·refine (I4.hok b u e).stay (fun c v hc q=>kp c v ?_ q) (fun _ q=>q) fun _ _ q=>q
       rcases hc with z | z
       ·rw [z];exact nC b u e
       ·exact nC c _ z
     ·refine ou2 Hi3 H3 e3 _ ⟨HD,hiD3,ys,hD3,?_⟩
      rw [hes3,List.append_nil]
      exact rd3
  rw [Ye] at dX
  exact codeAny_compStart_list (dX _ rfl) (T.self _ 0 _ _ _ tn1 (dX _ rfl))
theorem zAe {ea:Addr} {sc:Scope} {N:List Str} (W:GoodE X G ea) (hnd:N.Nodup) (hk:scope.kind=.function) (hsc:X.env.scope=sc) (hN:X.N=N) (h:zHS sc N x scope=true) (hi:PEd X G iter ev)
  (hb:∀ (C:Addr) (s₂:Shared) (H₂:Hp) (fp:List Addr) (G':Gx),PTs (cxC X x scope C s₂ H₂ fp) G' ifs t/\PEd (cxC X x scope C s₂ H₂ fp) G' elt f)
  (hs:∀ x,foldedSetIterable iter X.env x=pure x:=by intro _;rfl):PEf X G (.ListComp elt [⟨.Name x px,iter,ifs,0⟩] scope pos) (rB (zFI ev) t f):=by
 obtain ⟨b,h0,hx⟩:=zDm hk hsc hN h
 intro pins s σ H Q I w
 obtain ⟨ρ,Hi,R,ou⟩:=w
 rw [eval_ListComp]
 refine xR W b (hN ▸ hnd) h0 hx hi hb hs (use:=none) (Qa:=fun a H'=>Q (.ref a) H') I R ou fun C A m s4 H3 hn hI _ q=>?_
 exact ⟨m,hn,fun h' hs'=>⟨.ref A,H3,hI h' hs',rfl,q⟩⟩
end
section
variable {X:Cx} {G:Gx} {e:Expr} {p pos:Pos} {fv:Fv}
theorem yM {ea:Addr} (hh:X.A.handled=some (.ref ea)):iN X (.builtin "sum") (fun xs H Q=>(∃ C,H ea=some (.ext (lR ea C)))/\∃ (a:Addr) (ns:List Int),xs=[.ref a]/\SqL X.K H a (ns.map V.int)/\Q (.int ns.sum) H):=by
 intro pins s σ H xs us Q I r h
 obtain ⟨⟨C,hC⟩,a,ns,rfl,hq,q⟩:=h
 obtain ⟨u,rfl,ru⟩:=r.one
 cases ru
 obtain ⟨⟨o,vs,g1,_,g3,g4⟩,_⟩:=I.hok ea _ hC
 obtain ⟨its,rv,p,hz⟩:=I.list hq
 have hlt:a < s.heap.objs.size:=by obtain ⟨_,e,_⟩:=p.isList;exact Heap.lt_size e
 have hlt2:ea < s.heap.objs.size:=Heap.lt_size g1
 have hl:=rv.length
 rw [List.length_map] at hl
 refine call_sum_walkG (wpAny_pyIter_list p.isList ?_)
 refine ⟨s.heap.objs.size,_,_,_,_,_,fun i=>ns.getD i 0,rfl,Walks.listE (A:=X.A.in1) hh s.heap.objs.size a (Nat.ne_of_lt hlt) (Nat.ne_of_lt hlt2) its.toArray,⟨⟨_,Heap.get?_push_size _ rfl,rfl,rfl⟩,p.isList.push _,⟨o,vs,Heap.get?_push_of_some _ g1,g3,g4⟩⟩,fun b hb=>?_,fun i v hv=>iZ rv (by simpa using hv),fun h' tk t' hk=>?_⟩
 ·show b < (s.heap.push _).objs.size
  rw [Heap.size_push]
  rcases List.mem_cons.mp hb with rfl | hb
  ·exact Nat.lt_succ_self _
  ·rcases List.mem_cons.mp hb with rfl | hb
   ·exact Nat.lt_succ_of_lt hlt
   ·rcases List.mem_cons.mp hb with rfl | hb
    ·exact Nat.lt_succ_of_lt hlt2
    ·cases hb
 ·refine ⟨.int ns.sum,H,I.kept (t':=tk) fun b o e=>hk b o (fun z=>?_) (Heap.get?_push_of_some _ e),⟨t',?_⟩,q⟩
  ·have z':b=s.heap.objs.size:=by simpa using z
   have l:=Heap.lt_size e
   rw [z'] at l
   exact Nat.lt_irrefl _ l
  ·rw [List.size_toArray,<-hl,jQ,List.take_length]
theorem zEd {ea:Addr} (W:GoodE X G ea) (hg:Gl X "sum") (hm:X.mg "sum" = none) (h:PEf X G e fv)
  (he:starEach [e] X.env=(false,eval e X.env)::starEach [] X.env:=by rfl) (hpl:(backTo pos (starEach [] X.env)).any (·.1)=false:=by rfl):PEd X G (.Call (.Name "sum" p) [e] [] pos) (eB rY (aB (eF fv) aNil)):=
 PE.wk (iJ (yM W.hd) hg hm fR (aA (PEf.d h) aN he) (by decide) (by decide) he hpl) fun σ H Q q=>by
  obtain ⟨ρ,Hi,R,ou⟩:=q
  obtain ⟨C,hC⟩:=W.st
  refine ⟨ρ,Hi,R,?_⟩
  cases z:fv ρ with
  | no=>
   have hfs:aB (eF fv) aNil ρ=.no:=by unfold aB eF;rw [z];rfl
   unfold eB at ou;rw [hfs] at ou;exact ou.elim
  | err c=>
   have hfs:aB (eF fv) aNil ρ=.err c:=by unfold aB eF;rw [z];rfl
   unfold eB at ou;rw [hfs] at ou;rw [hfs];exact ou
  | ok ds=>
   have hfs:aB (eF fv) aNil ρ=.ok [.lst ds]:=by unfold aB eF;rw [z];rfl
   unfold eB at ou;rw [hfs] at ou;rw [hfs]
   intro Hi1 H1 e1 vs r1
   have R1:=R.grow e1
   refine ⟨⟨C,R1.ext.h.at hC⟩,?_⟩
   have o1:Out G Hi H (rY [.lst ds]) fun d Hi' H'=>∀ v,IsD X.K Hi' v d->Q v H':=ou
   have o1:Out G Hi H (match fQ ds with | some ns=>.ok (.int ns.sum) | none=>.no) fun d Hi' H'=>∀ v,IsD X.K Hi' v d->Q v H':=o1
   cases zn:fQ ds with
   | none=>rw [zn] at o1;exact o1.elim
   | some ns=>
    rw [zn] at o1
    obtain ⟨v,rfl,h⟩:=r1.one
    obtain ⟨a,xs,rfl,h1,h2⟩:=h.lstI
    have e:=eO h2 zn
    subst e
    exact ⟨a,ns,rfl,bC R1.s h1,o1 Hi1 H1 e1 _ (.int _)⟩
end
end L3
theorem PySem.W.Fast.tw12589762149171326053:True:=trivial
theorem PySem.W.Fast.tw13272614973371555256:True:=trivial
theorem PySem.W.Fast.tw5023095305944180570:True:=trivial
theorem PySem.W.Fast.tw2868124836498567033:True:=trivial
theorem PySem.W.Fast.tw15485430703176303231:True:=trivial
theorem PySem.W.Fast.tw8593223941689039516:True:=trivial
theorem PySem.W.Fast.tw4467124635315893353:True:=trivial
theorem PySem.W.Fast.tw6118916692007398107:True:=trivial
theorem PySem.W.Fast.tw2830026645116119688:True:=trivial
theorem PySem.W.Fast.tw2845974143866504374:True:=trivial
theorem PySem.W.Fast.tw13746859114394254565:True:=trivial
theorem PySem.W.Fast.tw5868921747713707975:True:=trivial
theorem PySem.W.Fast.tw6384353594055430150:True:=trivial
theorem PySem.W.Fast.tw10304901050604979371:True:=trivial
theorem PySem.W.Fast.tw806711746103649338:True:=trivial
theorem PySem.W.Fast.tw16313199135388248222:True:=trivial
theorem PySem.W.Fast.tw12858295152437793193:True:=trivial
theorem PySem.W.Fast.tw17462593442651327718:True:=trivial
theorem PySem.W.Fast.tw15638545596863540918:True:=trivial
theorem PySem.W.Fast.tw1915423430322860368:True:=trivial
theorem PySem.W.Fast.tw854726040717070496:True:=trivial
theorem PySem.W.Fast.tw9808329254942108395:True:=trivial
theorem PySem.W.Fast.tw2077144911471100829:True:=trivial
theorem PySem.W.Fast.tw13757687058412264925:True:=trivial
theorem PySem.W.Fast.tw10017036467271880407:True:=trivial
theorem PySem.W.Fast.tw11220558288858579758:True:=trivial
theorem PySem.W.Fast.tw10656769169366919980:True:=trivial
theorem PySem.W.Fast.tw11093331348080581973:True:=trivial
theorem PySem.W.Fast.tw18009189785114969819:True:=trivial
theorem PySem.W.Fast.tw8520292644277855887:True:=trivial
theorem PySem.W.Fast.tw1475015193256007051:True:=trivial
theorem PySem.W.Fast.tw3346450286373906189:True:=trivial
theorem PySem.W.Fast.tw16994230882033219943:True:=trivial
theorem PySem.W.Fast.tw14493665410026531824:True:=trivial
theorem PySem.W.Fast.tw3331600347204026301:True:=trivial
theorem PySem.W.Fast.tw10428759670041017149:True:=trivial
theorem PySem.W.Fast.tw6547343096246166672:True:=trivial
theorem PySem.W.Fast.tw12241968250864284704:True:=trivial
theorem PySem.W.Fast.tw1657635549567955594:True:=trivial
theorem PySem.W.Fast.tw6045842658575599613:True:=trivial
theorem PySem.W.Fast.tw8771488770265345133:True:=trivial
theorem PySem.W.Fast.tw1556964057393971077:True:=trivial
theorem PySem.W.Fast.tw2700764090980196037:True:=trivial
theorem PySem.W.Fast.tw2055503181163341912:True:=trivial
theorem PySem.W.Fast.tw3905184864381274520:True:=trivial
theorem PySem.W.Fast.tw16259384853663347656:True:=trivial
theorem PySem.W.Fast.tw14343758017768286554:True:=trivial
theorem PySem.W.Fast.tw8249263695491705355:True:=trivial
theorem PySem.W.Fast.tw3863530932710300663:True:=trivial
theorem PySem.W.Fast.tw4548771124227420362:True:=trivial
theorem PySem.W.Fast.tw1355055083362113012:True:=trivial
theorem PySem.W.Fast.tw10417204784461164509:True:=trivial
theorem PySem.W.Fast.tw17868329463512526469:True:=trivial
theorem PySem.W.Fast.tw10222337433159410487:True:=trivial
theorem PySem.W.Fast.tw5520536878879924646:True:=trivial
theorem PySem.W.Fast.tw9457397574717545600:True:=trivial
theorem PySem.W.Fast.tw6720575387070619223:True:=trivial
theorem PySem.W.Fast.tw16166427515241606798:True:=trivial
theorem PySem.W.Fast.tw6632595670229062688:True:=trivial
theorem PySem.W.Fast.tw7462075874636743406:True:=trivial
theorem PySem.W.Fast.tw12850940181467741589:True:=trivial
theorem PySem.W.Fast.tw3428242908232438052:True:=trivial
theorem PySem.W.Fast.tw16303968304725718409:True:=trivial
theorem PySem.W.Fast.tw9065028980862415320:True:=trivial
theorem PySem.W.Fast.tw8107617951414631912:True:=trivial
theorem PySem.W.Fast.tw13143516550016634099:True:=trivial
theorem PySem.W.Fast.tw1592154206641822987:True:=trivial
theorem PySem.W.Fast.tw16385065107377309379:True:=trivial
theorem PySem.W.Fast.tw4765606450615823958:True:=trivial
theorem PySem.W.Fast.tw9766077806643363001:True:=trivial
theorem PySem.W.Fast.tw1405542582830843200:True:=trivial
theorem PySem.W.Fast.tw17934404837827620837:True:=trivial
theorem PySem.W.Fast.tw11705473891697828318:True:=trivial
theorem PySem.W.Fast.tw15497897255512204989:True:=trivial
theorem PySem.W.Fast.tw14182581513555055261:True:=trivial
theorem PySem.W.Fast.tw5556742852760983894:True:=trivial
theorem PySem.W.Fast.tw8047017981300400631:True:=trivial
theorem PySem.W.Fast.tw4750667291811454988:True:=trivial
theorem PySem.W.Fast.tw15579245067367277095:True:=trivial
theorem PySem.W.Fast.tw13874396330928649212:True:=trivial
theorem PySem.W.Fast.tw11079173082192416037:True:=trivial
theorem PySem.W.Fast.tw12213822276119175869:True:=trivial
theorem PySem.W.Fast.tw17808398277505611094:True:=trivial
theorem PySem.W.Fast.tw16781498763328150675:True:=trivial
theorem PySem.W.Fast.tw14236476959208458839:True:=trivial
theorem PySem.W.Fast.tw664220907889309328:True:=trivial
theorem PySem.W.Fast.tw14835357666019613541:True:=trivial
theorem PySem.W.Fast.tw16210651098474595281:True:=trivial
theorem PySem.W.Fast.tw13064566594776388947:True:=trivial
theorem PySem.W.Fast.tw4564795503285971857:True:=trivial
theorem PySem.W.Fast.tw6054471726730877795:True:=trivial
theorem PySem.W.Fast.tw16894359592227065106:True:=trivial
theorem PySem.W.Fast.tw5923262439574405905:True:=trivial
theorem PySem.W.Fast.tw7384778950148708042:True:=trivial
theorem PySem.W.Fast.tw220475189832272964:True:=trivial
theorem PySem.W.Fast.tw2863990965873005643:True:=trivial
theorem PySem.W.Fast.tw10776443231240568835:True:=trivial
theorem PySem.W.Fast.tw4607779052411765899:True:=trivial
theorem PySem.W.Fast.tw14726501392607162350:True:=trivial
theorem PySem.W.Fast.tw10047970555791729392:True:=trivial
theorem PySem.W.Fast.tw3133590861750799954:True:=trivial
theorem PySem.W.Fast.tw8304243198508357819:True:=trivial
theorem PySem.W.Fast.tw4334152016602856381:True:=trivial
theorem PySem.W.Fast.tw2012965527246428391:True:=trivial
theorem PySem.W.Fast.tw9807139658878160266:True:=trivial
theorem PySem.W.Fast.tw14717023766120928501:True:=trivial
theorem PySem.W.Fast.tw12122499188209032475:True:=trivial
theorem PySem.W.Fast.tw392856154242087704:True:=trivial
theorem PySem.W.Fast.tw5237601139211772023:True:=trivial
theorem PySem.W.Fast.tw7143354955959644798:True:=trivial
theorem PySem.W.Fast.tw8697194502240486370:True:=trivial
theorem PySem.W.Fast.tw4469057030863411719:True:=trivial
theorem PySem.W.Fast.tw10118309105389713718:True:=trivial
theorem PySem.W.Fast.tw14630388322116097949:True:=trivial
theorem PySem.W.Fast.tw1865769559702627036:True:=trivial
theorem PySem.W.Fast.tw9348407228978506799:True:=trivial
theorem PySem.W.Fast.tw12093286698917587298:True:=trivial
theorem PySem.W.Fast.tw2067904767573395529:True:=trivial
theorem PySem.W.Fast.tw16495053434122369022:True:=trivial
theorem PySem.W.Fast.tw9999050713556642657:True:=trivial
theorem PySem.W.Fast.tw1410402339748763544:True:=trivial
theorem PySem.W.Fast.tw1829590694006719679:True:=trivial
theorem PySem.W.Fast.tw9454365264416048741:True:=trivial
theorem PySem.W.Fast.tw3301083549095694058:True:=trivial
theorem PySem.W.Fast.tw4096426330790729318:True:=trivial
theorem PySem.W.Fast.tw14597232035199610902:True:=trivial
theorem PySem.W.Fast.tw435159558560352139:True:=trivial
theorem PySem.W.Fast.tw2837348000237427220:True:=trivial
theorem PySem.W.Fast.tw5721062474944147919:True:=trivial
theorem PySem.W.Fast.tw15168660126346554803:True:=trivial
theorem PySem.W.Fast.tw13717737146040947283:True:=trivial
theorem PySem.W.Fast.tw5510276655698329920:True:=trivial
theorem PySem.W.Fast.tw5023454468997340796:True:=trivial
theorem PySem.W.Fast.tw3643676876000023644:True:=trivial
theorem PySem.W.Fast.tw10205814847366987168:True:=trivial
theorem PySem.W.Fast.tw5480894381341038515:True:=trivial
theorem PySem.W.Fast.tw4607437129707298805:True:=trivial
theorem PySem.W.Fast.tw14854461282177550808:True:=trivial
theorem PySem.W.Fast.tw10540409882011083231:True:=trivial
theorem PySem.W.Fast.tw11050282967421902875:True:=trivial
theorem PySem.W.Fast.tw2099720895713746434:True:=trivial
theorem PySem.W.Fast.tw18324712248168143668:True:=trivial
theorem PySem.W.Fast.tw16930548917506019897:True:=trivial
theorem PySem.W.Fast.tw16924159626892071422:True:=trivial
theorem PySem.W.Fast.tw7412265521430825450:True:=trivial
theorem PySem.W.Fast.tw13676552396940414637:True:=trivial
theorem PySem.W.Fast.tw3527379574201669387:True:=trivial
theorem PySem.W.Fast.tw11153426965668916173:True:=trivial
theorem PySem.W.Fast.tw16531153267373778985:True:=trivial
theorem PySem.W.Fast.tw1799452960515878632:True:=trivial
theorem PySem.W.Fast.tw15535759567192386773:True:=trivial
theorem PySem.W.Fast.tw11717435255856461771:True:=trivial
theorem PySem.W.Fast.tw18129470229150533596:True:=trivial
theorem PySem.W.Fast.tw17847271348882561490:True:=trivial
theorem PySem.W.Fast.tw17157356554882671211:True:=trivial
theorem PySem.W.Fast.tw16212723083007609403:True:=trivial
theorem PySem.W.Fast.tw174636934554397549:True:=trivial
theorem PySem.W.Fast.tw16905369104045652339:True:=trivial
theorem PySem.W.Fast.tw17646224871043904973:True:=trivial
theorem PySem.W.Fast.tw13223394406549593167:True:=trivial
theorem PySem.W.Fast.tw16560391752866963708:True:=trivial
theorem PySem.W.Fast.tw12135700258955698033:True:=trivial
theorem PySem.W.Fast.tw4081401680430958559:True:=trivial
theorem PySem.W.Fast.tw13098030528748850361:True:=trivial
theorem PySem.W.Fast.tw17403264709220445248:True:=trivial
theorem PySem.W.Fast.tw2790139533937078543:True:=trivial
theorem PySem.W.Fast.tw764284979000410452:True:=trivial
theorem PySem.W.Fast.tw2140982311205252076:True:=trivial
theorem PySem.W.Fast.tw6678247008348427147:True:=trivial
theorem PySem.W.Fast.tw16627195493566139927:True:=trivial
theorem PySem.W.Fast.tw4357671847900573987:True:=trivial
theorem PySem.W.Fast.tw12555300740813587782:True:=trivial
theorem PySem.W.Fast.tw6807847272427279536:True:=trivial
theorem PySem.W.Fast.tw8219686674508373341:True:=trivial
theorem PySem.W.Fast.tw9868648353461659845:True:=trivial
theorem PySem.W.Fast.tw6790255380570028914:True:=trivial
theorem PySem.W.Fast.tw1056881795341473760:True:=trivial
theorem PySem.W.Fast.tw12832749661011878251:True:=trivial
theorem PySem.W.Fast.tw4641484837150872308:True:=trivial
theorem PySem.W.Fast.tw9955222534431202182:True:=trivial
theorem PySem.W.Fast.tw4193827276778467291:True:=trivial
theorem PySem.W.Fast.tw4649190451071932738:True:=trivial
theorem PySem.W.Fast.tw5955623247934570947:True:=trivial
theorem PySem.W.Fast.tw13016933860597247288:True:=trivial
theorem PySem.W.Fast.tw3588904875019204926:True:=trivial
theorem PySem.W.Fast.tw11478215787436967404:True:=trivial
theorem PySem.W.Fast.tw7662435452634482557:True:=trivial
theorem PySem.W.Fast.tw6450475616594612850:True:=trivial
theorem PySem.W.Fast.tw12029652499084695786:True:=trivial
theorem PySem.W.Fast.tw10838369207176972948:True:=trivial
theorem PySem.W.Fast.tw18017669936333825860:True:=trivial
theorem PySem.W.Fast.tw6866853457295807122:True:=trivial
theorem PySem.W.Fast.tw7346008883323067167:True:=trivial
theorem PySem.W.Fast.tw5971139310916215189:True:=trivial
theorem PySem.W.Fast.tw6249349869092409738:True:=trivial
theorem PySem.W.Fast.tw4453445977922944646:True:=trivial
theorem PySem.W.Fast.tw1759590389094519469:True:=trivial
theorem PySem.W.Fast.tw5147312362606383117:True:=trivial
theorem PySem.W.Fast.tw12699895579556747066:True:=trivial
theorem PySem.W.Fast.tw13273080063766908816:True:=trivial
theorem PySem.W.Fast.tw7847976552318647587:True:=trivial
theorem PySem.W.Fast.tw15428613247516929015:True:=trivial
theorem PySem.W.Fast.tw3209374199922993988:True:=trivial
theorem PySem.W.Fast.tw1228949181432008784:True:=trivial
theorem PySem.W.Fast.tw7922027946763622476:True:=trivial
theorem PySem.W.Fast.tw1027430421035834037:True:=trivial
theorem PySem.W.Fast.tw776089112254689251:True:=trivial
theorem PySem.W.Fast.tw4558135252327503308:True:=trivial
theorem PySem.W.Fast.tw2507448971914454961:True:=trivial
theorem PySem.W.Fast.tw5366109913262242468:True:=trivial
theorem PySem.W.Fast.tw9353149311783141279:True:=trivial
theorem PySem.W.Fast.tw16793855068930487004:True:=trivial
theorem PySem.W.Fast.tw9078700514404297465:True:=trivial
theorem PySem.W.Fast.tw5585488509023650255:True:=trivial
theorem PySem.W.Fast.tw18127329904148193604:True:=trivial
theorem PySem.W.Fast.tw15732294024473635981:True:=trivial
theorem PySem.W.Fast.tw2823912118505826639:True:=trivial
theorem PySem.W.Fast.tw8623871448384093817:True:=trivial
theorem PySem.W.Fast.tw5908584669051269551:True:=trivial
theorem PySem.W.Fast.tw8879040721527328892:True:=trivial
theorem PySem.W.Fast.tw13704376086176604356:True:=trivial
theorem PySem.W.Fast.tw6955838074088955223:True:=trivial
theorem PySem.W.Fast.tw2783463866184010956:True:=trivial
theorem PySem.W.Fast.tw1488476060118439521:True:=trivial
theorem PySem.W.Fast.tw9767823018422297388:True:=trivial
theorem PySem.W.Fast.tw275511873287902575:True:=trivial
theorem PySem.W.Fast.tw8580362099742651261:True:=trivial
theorem PySem.W.Fast.tw15102177208986159399:True:=trivial
theorem PySem.W.Fast.tw3188148669652894632:True:=trivial
theorem PySem.W.Fast.tw4886432569141601491:True:=trivial
theorem PySem.W.Fast.tw4051188526649251576:True:=trivial
theorem PySem.W.Fast.tw11458866735089801234:True:=trivial
theorem PySem.W.Fast.tw15649077437025027228:True:=trivial
theorem PySem.W.Fast.tw7569353596411566383:True:=trivial
theorem PySem.W.Fast.tw387595220753859787:True:=trivial
theorem PySem.W.Fast.tw2702045849127781701:True:=trivial
theorem PySem.W.Fast.tw2048531132582189464:True:=trivial
theorem PySem.W.Fast.tw10163828426106162047:True:=trivial
theorem PySem.W.Fast.tw2743042255380106205:True:=trivial
theorem PySem.W.Fast.tw3139176725278095538:True:=trivial
theorem PySem.W.Fast.tw14397116443237726028:True:=trivial
theorem PySem.W.Fast.tw3353863436090393561:True:=trivial
theorem PySem.W.Fast.tw13360191458681198365:True:=trivial
theorem PySem.W.Fast.tw4514917920283675397:True:=trivial
theorem PySem.W.Fast.tw810142425558854257:True:=trivial
theorem PySem.W.Fast.tw9459308848500337565:True:=trivial
theorem PySem.W.Fast.tw2279506558230437859:True:=trivial
theorem PySem.W.Fast.tw2493096386221428910:True:=trivial
theorem PySem.W.Fast.tw6617360157772100680:True:=trivial
theorem PySem.W.Fast.tw758215448256564838:True:=trivial
theorem PySem.W.Fast.tw14046955050555353518:True:=trivial
theorem PySem.W.Fast.tw14003286240152658778:True:=trivial
theorem PySem.W.Fast.tw3579382501969498123:True:=trivial
theorem PySem.W.Fast.tw15798877042847614383:True:=trivial
theorem PySem.W.Fast.tw7697320310958748078:True:=trivial
theorem PySem.W.Fast.tw5140875228627909393:True:=trivial
theorem PySem.W.Fast.tw4991453678242910106:True:=trivial
theorem PySem.W.Fast.tw6578088523027662703:True:=trivial
theorem PySem.W.Fast.tw2697289352342609497:True:=trivial
theorem PySem.W.Fast.tw3191957584016188372:True:=trivial
theorem PySem.W.Fast.tw16321650061644450879:True:=trivial
theorem PySem.W.Fast.tw3477635335956098722:True:=trivial
theorem PySem.W.Fast.tw14165305613745708445:True:=trivial
theorem PySem.W.Fast.tw3642047588026447441:True:=trivial
theorem PySem.W.Fast.tw11712286911553498263:True:=trivial
theorem PySem.W.Fast.tw16036060640775326948:True:=trivial
theorem PySem.W.Fast.tw15615748166636658886:True:=trivial
theorem PySem.W.Fast.tw10676165150519814468:True:=trivial
theorem PySem.W.Fast.tw11790689865650173189:True:=trivial
theorem PySem.W.Fast.tw8232829718527582629:True:=trivial
theorem PySem.W.Fast.tw6751097825852883448:True:=trivial
theorem PySem.W.Fast.tw1234032929468925860:True:=trivial
theorem PySem.W.Fast.tw5072223664887070214:True:=trivial
theorem PySem.W.Fast.tw11634938630257493823:True:=trivial
theorem PySem.W.Fast.tw2578433046109247964:True:=trivial
theorem PySem.W.Fast.tw8195633196091031442:True:=trivial
theorem PySem.W.Fast.tw11693261258489314891:True:=trivial
theorem PySem.W.Fast.tw12031070256617834827:True:=trivial
theorem PySem.W.Fast.tw8988585328462295488:True:=trivial
theorem PySem.W.Fast.tw5417281854213290152:True:=trivial
theorem PySem.W.Fast.tw10994158694824409947:True:=trivial
theorem PySem.W.Fast.tw8248777555836219142:True:=trivial
theorem PySem.W.Fast.tw13661938840319179195:True:=trivial
theorem PySem.W.Fast.tw13476644006403032997:True:=trivial
theorem PySem.W.Fast.tw11747662640430040253:True:=trivial
theorem PySem.W.Fast.tw16951673900341312194:True:=trivial
theorem PySem.W.Fast.tw16742469540947371979:True:=trivial
theorem PySem.W.Fast.tw9001667150019085132:True:=trivial
theorem PySem.W.Fast.tw7324495695968975453:True:=trivial
theorem PySem.W.Fast.tw11972739476021376514:True:=trivial
theorem PySem.W.Fast.tw12981202289817793657:True:=trivial
theorem PySem.W.Fast.tw15786767932710355012:True:=trivial
theorem PySem.W.Fast.tw18156733318692589918:True:=trivial
theorem PySem.W.Fast.tw7596560125105821260:True:=trivial
theorem PySem.W.Fast.tw8356628065170352546:True:=trivial
theorem PySem.W.Fast.tw7466348856728656817:True:=trivial
theorem PySem.W.Fast.tw7818340678552526297:True:=trivial
theorem PySem.W.Fast.tw13844069104222405535:True:=trivial
theorem PySem.W.Fast.tw8924045207203029770:True:=trivial
theorem PySem.W.Fast.tw7096928277699240323:True:=trivial
theorem PySem.W.Fast.tw7276644714946111430:True:=trivial
theorem PySem.W.Fast.tw15027452799721353389:True:=trivial
theorem PySem.W.Fast.tw18088887101691666947:True:=trivial
theorem PySem.W.Fast.tw7467747462081726885:True:=trivial
theorem PySem.W.Fast.tw11556134755388845975:True:=trivial
theorem PySem.W.Fast.tw12150670143227116692:True:=trivial
theorem PySem.W.Fast.tw5939516724247538159:True:=trivial
theorem PySem.W.Fast.tw1829490281822927679:True:=trivial
theorem PySem.W.Fast.tw3280605099525141790:True:=trivial
theorem PySem.W.Fast.tw9490822848053082662:True:=trivial
theorem PySem.W.Fast.tw13375714959236981539:True:=trivial
theorem PySem.W.Fast.tw11136573017627348226:True:=trivial
theorem PySem.W.Fast.tw140056386903324954:True:=trivial
theorem PySem.W.Fast.tw7416192839933149169:True:=trivial
theorem PySem.W.Fast.tw4073809418716013290:True:=trivial
theorem PySem.W.Fast.tw3504148445992193761:True:=trivial
theorem PySem.W.Fast.tw1345135799328510997:True:=trivial
theorem PySem.W.Fast.tw15916663670188731080:True:=trivial
theorem PySem.W.Fast.tw8386320543524907625:True:=trivial
theorem PySem.W.Fast.tw13859079775159905747:True:=trivial
theorem PySem.W.Fast.tw7646708077512745851:True:=trivial
theorem PySem.W.Fast.tw2481076068725556603:True:=trivial
theorem PySem.W.Fast.tw7921790602401010728:True:=trivial
theorem PySem.W.Fast.tw17007260579031422972:True:=trivial
theorem PySem.W.Fast.tw7316364960435220700:True:=trivial
theorem PySem.W.Fast.tw4724060007209825109:True:=trivial
theorem PySem.W.Fast.tw11196486279917996892:True:=trivial
theorem PySem.W.Fast.tw16206755324305818632:True:=trivial
theorem PySem.W.Fast.tw2449978523303944900:True:=trivial
theorem PySem.W.Fast.tw17170485328610874229:True:=trivial
theorem PySem.W.Fast.tw8236638271042852468:True:=trivial
theorem PySem.W.Fast.tw3743560729244722689:True:=trivial
theorem PySem.W.Fast.tw17568715366526395599:True:=trivial
theorem PySem.W.Fast.tw9664704066390777265:True:=trivial
theorem PySem.W.Fast.tw12733991124071466301:True:=trivial
theorem PySem.W.Fast.tw10050950558617464458:True:=trivial
theorem PySem.W.Fast.tw6732013088428825516:True:=trivial
theorem PySem.W.Fast.tw10799599380329679384:True:=trivial
theorem PySem.W.Fast.tw13839242875045199968:True:=trivial
theorem PySem.W.Fast.tw9015834545936772204:True:=trivial
theorem PySem.W.Fast.tw1383697015672782114:True:=trivial
theorem PySem.W.Fast.tw3872623994485223249:True:=trivial
theorem PySem.W.Fast.tw5215652697466466763:True:=trivial
theorem PySem.W.Fast.tw3875495315954879295:True:=trivial
theorem PySem.W.Fast.tw16303193172117215465:True:=trivial
theorem PySem.W.Fast.tw5161245728816878433:True:=trivial
theorem PySem.W.Fast.tw2118773758174226390:True:=trivial
theorem PySem.W.Fast.tw4334237369704463843:True:=trivial
theorem PySem.W.Fast.tw10824648675368672272:True:=trivial
theorem PySem.W.Fast.tw11130121954686352879:True:=trivial
theorem PySem.W.Fast.tw14271385047215680120:True:=trivial
theorem PySem.W.Fast.tw5572242265072743367:True:=trivial
theorem PySem.W.Fast.tw11728047075738116660:True:=trivial
theorem PySem.W.Fast.tw7582536279979642982:True:=trivial
theorem PySem.W.Fast.tw12044189998712056743:True:=trivial
theorem PySem.W.Fast.tw5357263326175780248:True:=trivial
theorem PySem.W.Fast.tw5323025038665669050:True:=trivial
theorem PySem.W.Fast.tw11560427075351247677:True:=trivial
theorem PySem.W.Fast.tw9708372249814699750:True:=trivial
theorem PySem.W.Fast.tw4780074810292218449:True:=trivial
theorem PySem.W.Fast.tw17489300842212828877:True:=trivial
theorem PySem.W.Fast.tw394355097542456972:True:=trivial
theorem PySem.W.Fast.tw7091505890645581224:True:=trivial
theorem PySem.W.Fast.tw10286159452348034753:True:=trivial
theorem PySem.W.Fast.tw11571936854820615147:True:=trivial
theorem PySem.W.Fast.tw209796156022495477:True:=trivial
theorem PySem.W.Fast.tw2624759470219053608:True:=trivial
theorem PySem.W.Fast.tw9896795815541267669:True:=trivial
theorem PySem.W.Fast.tw5633368055917334310:True:=trivial
theorem PySem.W.Fast.tw50880174673933082:True:=trivial
theorem PySem.W.Fast.tw3867458230888629840:True:=trivial
theorem PySem.W.Fast.tw18444189014044944739:True:=trivial
theorem PySem.W.Fast.tw10228637096497488010:True:=trivial
theorem PySem.W.Fast.tw15006492831486046582:True:=trivial
theorem PySem.W.Fast.tw13067430852029491563:True:=trivial
theorem PySem.W.Fast.tw13918273415192184076:True:=trivial
theorem PySem.W.Fast.tw9697125862760947397:True:=trivial
theorem PySem.W.Fast.tw12545347665504166993:True:=trivial
theorem PySem.W.Fast.tw5170068085168025510:True:=trivial
theorem PySem.W.Fast.tw17467080233087519828:True:=trivial
theorem PySem.W.Fast.tw15249520104036817501:True:=trivial
theorem PySem.W.Fast.tw12211808433903366794:True:=trivial
theorem PySem.W.Fast.tw207781400701569208:True:=trivial
theorem PySem.W.Fast.tw6252666917778176410:True:=trivial
theorem PySem.W.Fast.tw5838107784909511563:True:=trivial
theorem PySem.W.Fast.tw9644182014743133346:True:=trivial
namespace Lw
open L3 PySem
def tbT:List Str:=["BadWay", "BadClaim", "BadWeights", "Outside"]
def yH:List (Str×List Str):=[("BadWay", ["BadWay", "CatchError", "ValueError", "Exception", "BaseException", "object"]),("BadClaim", ["BadClaim", "CatchError", "ValueError", "Exception", "BaseException", "object"]),("BadWeights", ["BadWeights", "CatchError", "ValueError", "Exception", "BaseException", "object"]),("Outside", ["Outside", "CatchError", "ValueError", "Exception", "BaseException", "object"])]
def kD:D:=(.tup [(.int 0),(.int 1)])
def aQ:List (Str×Str):=[("row", "back"),("back", "row"),("even", "lack"),("lack", "even"),("part", "part"),("half", "half")]
def d_WEIGHTED:D:=(.tup [(.str "even"),(.str "lack")])
def d_HALF:D:=(.tup [(.int 1),(.int 2)])
abbrev jW:Sv:=(dU 1 (aE 2))
abbrev kH:Sv:=(bQ (dU 0 (aE 1)) jW)
abbrev kE:Sv:=(bQ (dU 2 (eOp fS (aE 0) (aE 1))) kH)
abbrev jJ:Sv:=(jG (aE 0))
abbrev jN:Sv:=(bQ (dI (dM (eOp oNe (aE 1) (eC (.int 0)))) kE) jJ)
abbrev kK:Sv:=(bQ (dU 1 (eB zDB (aB (aE 1) aNil))) jN)
def cM:Mir:=fn 2 3 (bQ (dU 0 (eB zDB (aB (aE 0) aNil))) kK)
def cB:Mir:=fn 1 1 (jG (zCI (aB (aE 0) (aB (eC (.int 1)) aNil))))
def hG:Mir:=fn 2 2 (jG (eOp oLt (eOp pE (eOp oIx (aE 0) (eC (.int 0))) (eOp oIx (aE 1) (eC (.int 1)))) (eOp pE (eOp oIx (aE 1) (eC (.int 0))) (eOp oIx (aE 0) (eC (.int 1))))))
abbrev pK:Sv:=(dU 1 (eOp pE (aE 1) (eOp oIx (aE 2) (eC (.int 1)))))
abbrev tK:Sv:=(dU 1 (eC (.int 1)))
abbrev nY:Sv:=(zCn (zBR (aE 0)) (gName 2) pK)
def iG:List D->Res (List Int):=qV tK nY
def bV:Mir:=fn 1 1 (sIf (dM (eUn (lC aQ) (aE 0))) (kN "BadWay" (aB (eC (.str "no such way")) aNil)) sNext)
abbrev fP:Sv:=(sIf (dM (eOp oLt (aE 1) (eC (.int 0)))) (kN "BadClaim" (aB (eC (.str "a claim is below nought")) aNil)) sNext)
abbrev lA:Sv:=(zCn (zBR (aE 0)) (gName 1) fP)
def bS:Mir:=fn 1 2 (bQ (sIf (dM (eOp oEq (eB pN (aB (aE 0) aNil)) (eC (.int 0)))) (kN "BadClaim" (aB (eC (.str "there is no claim")) aNil)) sNext) lA)
abbrev fB:Sv:=(sIf (zBK (dM (eOp oLt (aE 4) (eC (.int 1)))) (dM (eOp oGt (aE 4) (eOp nD (eC (.int 10)) (eC (.int 6)))))) (kN "BadWeights" (aB (eC (.str "a weight is not from 1 to 10 ** 6")) aNil)) sNext)
abbrev kG:Sv:=(zCn (zBR (aE 1)) (gName 4) fB)
abbrev kC:Sv:=(bQ (sIf (dM (eOp oNe (eB pN (aB (aE 1) aNil)) (aE 3))) (kN "BadWeights" (aB (eC (.str "more or fewer weights than are due")) aNil)) sNext) kG)
def aZ:Mir:=fn 3 5 (bQ (dU 3 (eIf (dM (eOp oIn (aE 0) (eC d_WEIGHTED))) (aE 2) (eC (.int 0)))) kC)
abbrev oA:Sv:=(jG (eC (.int 0)))
def bB:Mir:=fn 2 2 (bQ (sIf (dM (eOp oLt (aE 1) (eB pN (aB (aE 0) aNil)))) (jG (eOp oIx (aE 0) (aE 1))) sNext) oA)
abbrev lQ:Sv:=(dU 3 (aE 4))
abbrev lT:Sv:=(bQ (dU 2 (aE 3)) lQ)
abbrev lP:Sv:=(bQ (dU 4 (eOp fS (aE 2) (aE 3))) lT)
abbrev lY:Sv:=(jG (zCI (aB (eOp lD (aE 0) (aE 2)) (aB (eOp lD (aE 1) (aE 2)) aNil))))
abbrev gG:Sv:=(bQ (sIf (dM (eOp oEq (aE 2) (eC (.int 0)))) (jG (zCI (aB (eC (.int 0)) (aB (eC (.int 1)) aNil)))) sNext) lY)
abbrev mG:Sv:=(bQ (dI (dM (eOp oGt (aE 3) (eC (.int 0)))) lP) gG)
abbrev mD:Sv:=(bQ (dU 3 (aE 1)) mG)
def bN:Mir:=fn 2 5 (bQ (dU 2 (eB zDB (aB (aE 0) aNil))) mD)
abbrev uP:Sv:=(jG (eOp oIx (eF (iE (aB (eC (.str "row")) (aB (eC (.str "back")) (aB (eC (.str "even")) (aB (eC (.str "lack")) (aB (eC (.str "part")) (aB (eC (.str "half")) aNil)))))))) (eOp fS (eOp lD (aE 0) (eC (.int 5))) (eC (.int 6)))))
def gP:Mir:=fn 1 1 (bQ (sIf (dM (eOp oEq (eOp fS (aE 0) (eC (.int 5))) (eC (.int 4)))) (jG (eOp oIx (eF (iE (aB (eC (.str "")) (aB (eC (.str "Row")) (aB (eC (.str "evens")) (aB (eC (.str "halve")) (aB (eC (.str "back ")) (aB (eC (.str " part")) (aB (eC (.str "lacks")) (aB (eC (.str "none")) aNil)))))))))) (eOp fS (eOp lD (aE 0) (eC (.int 5))) (eC (.int 8))))) sNext) uP)
abbrev uU:Sv:=(jG (eC (.int 4)))
abbrev jE:Sv:=(bQ (sIf (zBK (dM (eOp oNe (eB pN (aB (aE 1) aNil)) (eB pN (aB (aE 2) aNil)))) (zBK (dM (eOp oLt (eB xQ (aB (aE 1) aNil)) (eC (.int 1)))) (dM (eOp oGt (eB zBw (aB (aE 1) aNil)) (eOp nD (eC (.int 10)) (eC (.int 6))))))) (jG (eC (.int 2))) sNext) uU)
abbrev bZ:Sv:=(bQ (sIf (sK (dM (eOp oNe (aE 0) (eC (.str "even")))) (dM (eOp oNe (aE 0) (eC (.str "lack"))))) (jG (eOp oIx (eF (iE (aB (eC (.int 2)) (aB (eC (.int 4)) aNil)))) (eB zGb (aB (eOp oEq (aE 1) (eF (iE aNil))) aNil)))) sNext) jE)
abbrev oG:Sv:=(bQ (sIf (zBK (dM (eOp oEq (aE 2) (eF (iE aNil)))) (dM (eOp oLt (eB xQ (aB (aE 2) aNil)) (eC (.int 0))))) (jG (eC (.int 1))) sNext) bZ)
def cJ:Mir:=fn 3 3 (bQ (sIf (dM (eOp iQ (aE 0) (eF (iE (aB (eC (.str "row")) (aB (eC (.str "back")) (aB (eC (.str "even")) (aB (eC (.str "lack")) (aB (eC (.str "part")) (aB (eC (.str "half")) aNil)))))))))) (jG (eC (.int 0))) sNext) oG)
abbrev zCh:Sv:=(jG (zCI (aB (eOp lD (aE 0) (aE 2)) (aB (eOp lD (aE 1) (aE 2)) aNil))))
abbrev zBV:Sv:=(bQ (sIf (dM (eOp oLt (aE 1) (eC (.int 0)))) (dU 2 (eUn zDr (aE 2))) sNext) zCh)
abbrev zCR:Sv:=(bQ (dU 2 (bE cM (aB (aE 0) (aB (aE 1) aNil)))) zBV)
def eR:Mir:=fn 2 3 (bQ (sIf (dM (eOp oEq (aE 1) (eC (.int 0)))) (kN "NoFraction" (aB (eC (.str "the bottom is nought")) aNil)) sNext) zCR)
def fX:Mir:=fn 2 2 (jG (eIf (dM (bE hG (aB (aE 0) (aB (aE 1) aNil)))) (aE 0) (aE 1)))
def cW:Mir:=fn 2 2 (jG (eOr (bE hG (aB (aE 0) (aB (eC kD) aNil))) (bE hG (aB (aE 1) (aB (aE 0) aNil)))))
abbrev yB:Sv:=(rX (bE aZ (aB (aE 0) (aB (aE 1) (aB (eB pN (aB (aE 2) aNil)) aNil)))))
abbrev xN:Sv:=(bQ (rX (bE bS (aB (aE 2) aNil))) yB)
def bX:Mir:=fn 3 3 (bQ (rX (bE bV (aB (aE 0) aNil))) xN)
abbrev mC:Sv:=(jG (eUn (pI aQ) (aE 0)))
def bO:Mir:=fn 1 1 (bQ (rX (bE bV (aB (aE 0) aNil))) mC)
abbrev pA:Sv:=(zEX 3 (eOp fS (eOp lD (aE 5) (eC (.int 2))) (eOp oIx (eF (iE (aB (eC (.int 13)) (aB (eOp nD (eC (.int 10)) (eC (.int 30))) aNil)))) (eOp fS (aE 5) (eC (.int 2))))))
abbrev oQ:Sv:=(bQ (dU 5 (eOp fS (bE bB (aB (aE 0) (aB (eOp vA (eC (.int 5)) (aE 4)) aNil))) (eOp nD (eC (.int 10)) (eC (.int 40))))) pA)
abbrev nI:Sv:=(jD 3)
abbrev fG:Sv:=(bQ (sIf (dM (eOp oEq (eOp fS (eOp lD (aE 1) (eC (.int 8))) (eC (.int 32))) (eC (.int 2)))) (zET 3 (iE aNil)) sNext) nI)
abbrev fL:Sv:=(bQ (sIf (dM (eOp oEq (eOp fS (eOp lD (aE 1) (eC (.int 8))) (eC (.int 4))) (eC (.int 1)))) (zFK 3 (eOp fS (eOp lD (aE 1) (eC (.int 32))) (aE 2)) (eOp xI (eUn zDr (eC (.int 1))) (eOp fS (eOp lD (aE 1) (eC (.int 256))) (eOp oIx (eF (iE (aB (eC (.int 2)) (aB (eOp nD (eC (.int 10)) (eC (.int 59))) aNil)))) (eOp fS (eOp lD (aE 1) (eC (.int 256))) (eC (.int 2))))))) sNext) fG)
abbrev oO:Sv:=(bQ (zCn (vE (aB (aE 2) aNil)) (gName 4) oQ) fL)
abbrev oR:Sv:=(bQ (zET 3 (iE aNil)) oO)
def dZ:Mir:=fn 2 6 (bQ (dU 2 (eOp vA (eC (.int 1)) (eOp fS (aE 1) (eC (.int 8))))) oR)
abbrev oE:Sv:=(zEX 4 (eOp vA (eC (.int 1)) (eOp fS (eOp lD (aE 6) (eC (.int 2))) (eOp oIx (eF (iE (aB (eC (.int 4)) (aB (eOp nD (eC (.int 10)) (eC (.int 6))) aNil)))) (eOp fS (aE 6) (eC (.int 2)))))))
abbrev gW:Sv:=(bQ (dU 6 (eOp fS (bE bB (aB (aE 0) (aB (eOp vA (eC (.int 13)) (aE 5)) aNil))) (eOp nD (eC (.int 10)) (eC (.int 30))))) oE)
abbrev gX:Sv:=(zFK 4 (zGC (eOp fS (eOp lD (aE 1) (eC (.int 7))) (eB pN (aB (aE 4) aNil)))) (eOp oIx (aE 7) (eOp fS (eOp lD (aE 1) (eC (.int 91))) (eC (.int 4)))))
abbrev mB:Sv:=(uN 4)
abbrev eU:Sv:=(bQ (sIf (dM (eOp oEq (eOp fS (aE 1) (eC (.int 7))) (eC (.int 2)))) (sFrzAt 4 (dU 4 (eOp oIx (eF (iE (aB (eF (fSl (aE 4) (oS (eC (.int 1))) oN)) (aB (eF (zIi (aE 4) (eF (iE (aB (eC (.int 1)) aNil))))) aNil)))) (eOp fS (eOp lD (aE 1) (eC (.int 7))) (eC (.int 2)))))) sNext) mB)
abbrev dL:Sv:=(bQ (sIf (tFrzB (sK (dM (eOp oNe (aE 4) (eF (iE aNil)))) (dM (eOp oEq (eOp fS (aE 1) (eC (.int 7))) (eC (.int 1)))))) (bQ (dU 7 (eF (iE (aB (eC (.int 0)) (aB (eOp xI (eUn zDr (eC (.int 1))) (eOp fS (eOp lD (aE 1) (eC (.int 700))) (eOp nD (eC (.int 10)) (eC (.int 50))))) (aB (eOp vA (eOp nD (eC (.int 10)) (eC (.int 6))) (eC (.int 1))) (aB (eOp vA (eOp vA (eOp nD (eC (.int 10)) (eC (.int 6))) (eOp fS (eOp lD (aE 1) (eC (.int 700))) (eOp nD (eC (.int 10)) (eC (.int 50))))) (eC (.int 1))) aNil))))))) gX) sNext) eU)
abbrev hZ:Sv:=(bQ (sIf (dM (eOp oNe (eOr (eOp oEq (aE 2) (eC (.str "even"))) (eOp oEq (aE 2) (eC (.str "lack")))) (eOp oEq (eOp fS (aE 1) (eC (.int 7))) (eC (.int 3))))) (zCn (vE (aB (aE 3) aNil)) (gName 5) gW) sNext) dL)
def cY:Mir:=fn 4 8 (bQ (zET 4 (iE aNil)) hZ)
def lM:Mir:=fn 2 2 (jG (bE eR (aB (eOp vA (eOp pE (eOp oIx (aE 0) (eC (.int 0))) (eOp oIx (aE 1) (eC (.int 1)))) (eOp pE (eOp oIx (aE 1) (eC (.int 0))) (eOp oIx (aE 0) (eC (.int 1))))) (aB (eOp pE (eOp oIx (aE 0) (eC (.int 1))) (eOp oIx (aE 1) (eC (.int 1)))) aNil))))
def eP:Mir:=fn 2 2 (jG (bE eR (aB (eOp xI (eOp pE (eOp oIx (aE 0) (eC (.int 0))) (eOp oIx (aE 1) (eC (.int 1)))) (eOp pE (eOp oIx (aE 1) (eC (.int 0))) (eOp oIx (aE 0) (eC (.int 1))))) (aB (eOp pE (eOp oIx (aE 0) (eC (.int 1))) (eOp oIx (aE 1) (eC (.int 1)))) aNil))))
def fV:Mir:=fn 2 2 (jG (bE eR (aB (eOp pE (eOp oIx (aE 0) (eC (.int 0))) (eOp oIx (aE 1) (eC (.int 0)))) (aB (eOp pE (eOp oIx (aE 0) (eC (.int 1))) (eOp oIx (aE 1) (eC (.int 1)))) aNil))))
def nE:Mir:=fn 2 2 (jG (bE eR (aB (eOp pE (eOp oIx (aE 0) (eC (.int 0))) (eOp oIx (aE 1) (eC (.int 1)))) (aB (eOp pE (eOp oIx (aE 0) (eC (.int 1))) (eOp oIx (aE 1) (eC (.int 0)))) aNil))))
def bJ:Mir:=fn 2 2 (sIf (dM (bE cW (aB (aE 0) (aB (aE 1) aNil)))) (kN "Outside" (aB (eC (.str "below nought, or more than there can be")) aNil)) sNext)
def dO:Mir:=fn 2 2 (lS (qB (zHl (aB (aE 1) (aB (aE 0) aNil))) (bE eR (aB (aE 2) (aB (aE 3) aNil)))))
abbrev qK:Sv:=(dU 2 (bE eP (aB (aE 2) (aB (aE 5) aNil))))
abbrev qM:Sv:=(bQ (zEX 3 (aE 5)) qK)
abbrev kL:Sv:=(bQ (dU 5 (bE fX (aB (aE 2) (aB (bE cB (aB (aE 4) aNil)) aNil)))) qM)
abbrev qZ:Sv:=(jD 3)
abbrev rO:Sv:=(bQ (zCn (zBR (aE 0)) (gName 4) kL) qZ)
abbrev rA:Sv:=(bQ (zET 3 (iE aNil)) rO)
def dS:Mir:=fn 2 6 (bQ (dU 2 (aE 1)) rA)
abbrev pF:Sv:=(zGX 4 xI (eOp oIx (aE 0) (aE 6)))
abbrev oJ:Sv:=(bQ (dU 3 (zGC (bE eP (aB (aE 3) (aB (eOp oIx (aE 5) (aE 6)) aNil))))) pF)
abbrev pC:Sv:=(bQ (zFK 5 (aE 6) (bE fX (aB (aE 7) (aB (bE cB (aB (eOp oIx (aE 1) (aE 6)) aNil)) aNil)))) oJ)
abbrev bI:Sv:=(bQ (dU 7 (bE nE (aB (bE fV (aB (aE 3) (aB (bE cB (aB (eOp oIx (aE 0) (aE 6)) aNil)) aNil))) (aB (bE cB (aB (aE 4) aNil)) aNil)))) pC)
abbrev fJ:Sv:=(jD 5)
abbrev iP:Sv:=(zCg (aB (eF (jI dO (aB (aE 0) (aB (aE 1) aNil)))) aNil) iG (gName 6) bI fJ)
abbrev oZ:Sv:=(bQ (zET 5 (zFF (iE (aB (eC kD) aNil)) (eB pN (aB (aE 1) aNil)))) iP)
abbrev oX:Sv:=(bQ (dU 4 (eB rY (aB (aE 0) aNil))) oZ)
def cE:Mir:=fn 3 8 (bQ (dU 3 (aE 2)) oX)
abbrev oT:Sv:=(lS (rB (zBR (aE 0)) vI (bE fV (aB (aE 3) (aB (bE cB (aB (aE 4) aNil)) aNil)))))
abbrev oK:Sv:=(bQ (dU 3 (bE nE (aB (aE 1) (aB (bE cB (aB (aE 2) aNil)) aNil)))) oT)
abbrev oV:Sv:=(bQ (sIf (dM (eOp oEq (aE 2) (eC (.int 0)))) (lS (zFF (iE (aB (eC kD) aNil)) (eB pN (aB (aE 0) aNil)))) sNext) oK)
def dH:Mir:=fn 2 4 (bQ (dU 2 (eB rY (aB (aE 0) aNil))) oV)
abbrev oW:Sv:=(lS (rB (zBR (eF (jI cE (aB (aE 2) (aB (aE 0) (aB (bE lM (aB (aE 1) (aB (aE 1) aNil))) aNil)))))) vI (bE fV (aB (aE 3) (aB (eC d_HALF) aNil)))))
def dG:Mir:=fn 2 3 (bQ (dU 2 (eF (zFF (iE (aB (eC (.int 1)) aNil)) (eB pN (aB (aE 0) aNil))))) oW)
abbrev jM (r:Mir):Sv:=(lS (qB (zHl (aB (aE 2) (aB (aE 5) aNil))) (bE eP (aB (bE cB (aB (aE 6) aNil)) (aB (aE 7) aNil)))))
abbrev jV (r:Mir):Sv:=(bQ (dU 5 (eF (jI r (aB (eUn (pI aQ) (aE 0)) (aB (aE 1) (aB (aE 2) (aB (bE eP (aB (aE 4) (aB (aE 3) aNil))) aNil))))))) (jM r))
abbrev lF (r:Mir):Sv:=(bQ (sIf (sK (dM (eOp oEq (aE 0) (eC (.str "half")))) (zDO (dM (bE hG (aB (aE 4) (aB (bE lM (aB (aE 3) (aB (aE 3) aNil))) aNil)))))) (lS (jI dG (aB (aE 2) (aB (aE 3) aNil)))) sNext) (jV r))
abbrev kU (r:Mir):Sv:=(bQ (sIf (dM (eOp oEq (aE 0) (eC (.str "part")))) (lS (jI dH (aB (aE 2) (aB (aE 3) aNil)))) sNext) (lF r))
abbrev kZ (r:Mir):Sv:=(bQ (sIf (dM (eOp oEq (aE 0) (eC (.str "even")))) (lS (jI cE (aB (aE 1) (aB (aE 2) (aB (aE 3) aNil))))) sNext) (kU r))
abbrev kX (r:Mir):Sv:=(bQ (sIf (dM (eOp oEq (aE 0) (eC (.str "row")))) (lS (jI dS (aB (aE 2) (aB (aE 3) aNil)))) sNext) (kZ r))
def aP (r:Mir):Mir:=fn 4 6 (bQ (dU 4 (bE cB (aB (eB rY (aB (aE 2) aNil)) aNil))) (kX r))
def aG:Nat->Mir
 | 0=>fn 4 6 sNo
 | n+1=>aP (aG n)
abbrev zY:Sv:=(lS (jI (aG 2) (aB (aE 0) (aB (aE 1) (aB (aE 2) (aB (aE 3) aNil))))))
abbrev zAW:Sv:=(bQ (rX (bE bJ (aB (aE 3) (aB (bE cB (aB (eB rY (aB (aE 2) aNil)) aNil)) aNil)))) zY)
def eD:Mir:=fn 4 4 (bQ (rX (bE bX (aB (aE 0) (aB (aE 1) (aB (aE 2) aNil))))) zAW)
abbrev lZ:Sv:=(sIf (dM (uA yH 7 ["BadCatch", "BadLine", "NoBoat", "NoFraction", "NoText", "TooMany", "Unlike"])) (dU 5 (eUn zDr (eC (.int 1)))) sNext)
abbrev lV:Sv:=(bQ (sIf (sK (dM (eOp oEq (eB rY (aB (eF (rB (zFI (aE 8)) vI (eB zGb (aB (aE 9) aNil)))) aNil)) (eC (.int 1)))) (dM (uA yH 7 ["ValueError"]))) (dU 5 (zIZ true (aE 8))) sNext) lZ)
abbrev gM:Sv:=(bQ (dU 5 (eUn zDr (eC (.int 1)))) lV)
abbrev bU:Sv:=(jG (zCI (aB (aE 5) (aB (aE 6) aNil))))
abbrev nR:Sv:=(bQ (zHC tbT 7 (xIf (dM (eOp oEq (aE 0) (eC (.int 0)))) (zFH 6 bX (aB (aE 1) (aB (aE 2) (aB (aE 3) aNil)))) (xIf (dM (eOp oEq (aE 0) (eC (.int 1)))) (zFH 6 eD (aB (aE 1) (aB (aE 2) (aB (aE 3) (aB (aE 4) aNil))))) (zFH 6 bO (aB (aE 1) aNil)))) (bQ (dU 8 (eF (iE (aB (uA yH 7 ["BadWay"]) (aB (uA yH 7 ["BadClaim"]) (aB (uA yH 7 ["BadWeights"]) (aB (uA yH 7 ["Outside"]) aNil))))))) gM)) bU)
abbrev mY:Sv:=(bQ (dU 6 (eC .non)) nR)
def aL:Mir:=fn 5 9 (bQ (dU 5 (eC (.int 4))) mY)
abbrev zCs:Sv:=(jG (eOp oEq (bE aL (aB (eC (.int 2)) (aB (aE 1) (aB (eF (iE aNil)) (aB (eF (iE aNil)) (aB (aE 6) aNil)))))) (zCI (aB (eC (.int 4)) (aB (eOp oIx (eF (iE (aB (eC (.str "back")) (aB (eC (.str "row")) (aB (eC (.str "lack")) (aB (eC (.str "even")) (aB (eC (.str "part")) (aB (eC (.str "half")) aNil)))))))) (eWh (aE 10) (aE 1))) aNil)))))
abbrev zCw:Sv:=(bQ (sIf (dM (eOp iQ (aE 1) (aE 10))) (jG (eOp oEq (eOp oIx (bE aL (aB (eC (.int 2)) (aB (aE 1) (aB (eF (iE aNil)) (aB (eF (iE aNil)) (aB (aE 6) aNil)))))) (eC (.int 0))) (eC (.int 0)))) sNext) zCs)
abbrev gD:Sv:=(bQ (dU 10 (eF (iE (aB (eC (.str "row")) (aB (eC (.str "back")) (aB (eC (.str "even")) (aB (eC (.str "lack")) (aB (eC (.str "part")) (aB (eC (.str "half")) aNil))))))))) zCw)
abbrev wN:Sv:=(bQ (sIf (zBK (dM (eOp oNe (eOp oIx (aE 9) (eC (.int 0))) (aE 8))) (zBK (dM (eOp oNe (eOp oEq (aE 8) (eC (.int 4))) (zIs "list" (eOp oIx (aE 9) (eC (.int 1)))))) (dM (eOp oNe (aE 7) (eF (iE (aB (aE 3) (aB (aE 2) aNil)))))))) (jG (eC (.bl false))) sNext) gD)
abbrev mI:Sv:=(bQ (dU 9 (bE aL (aB (eC (.int 1)) (aB (aE 1) (aB (eOp oIx (aE 7) (eC (.int 0))) (aB (eB zFJ (aB (eOp oIx (aE 7) (eC (.int 1))) aNil)) (aB (aE 6) aNil))))))) wN)
abbrev vL:Sv:=(bQ (sIf (sK (dM (eOp oEq (aE 8) (eC (.int 4)))) (zBK (dM (eOp oLt (eOp oIx (aE 6) (eC (.int 0))) (eC (.int 0)))) (dM (eOp oGt (eOp oIx (aE 6) (eC (.int 0))) (eOp pE (aE 5) (eOp oIx (aE 6) (eC (.int 1)))))))) (dU 8 (eC (.int 3))) sNext) mI)
abbrev vR:Sv:=(bQ (sIf (dM (eOp oNe (bE aL (aB (eC (.int 0)) (aB (aE 1) (aB (eOp oIx (aE 7) (eC (.int 0))) (aB (eOp oIx (aE 7) (eC (.int 1))) (aB (aE 6) aNil)))))) (zCI (aB (aE 8) (aB (eC .non) aNil))))) (jG (eC (.bl false))) sNext) vL)
abbrev wR:Sv:=(bQ (dU 8 (bE cJ (aB (aE 1) (aB (aE 3) (aB (aE 2) aNil))))) vR)
abbrev iH:Sv:=(bQ (dU 7 (eF (iE (aB (eF (zBO (aB (aE 3) aNil))) (aB (eF (zBO (aB (aE 2) aNil))) aNil))))) wR)
abbrev zBB:Sv:=(bQ (sIf (dM (eOp oEq (eOp fS (aE 4) (eC (.int 4))) (eC (.int 2)))) (dU 6 (bE bN (aB (eOp xI (eUn zDr (eC (.int 1))) (eOp fS (eOp lD (aE 4) (eC (.int 12))) (eOp oIx (eF (iE (aB (eC (.int 3)) (aB (eOp nD (eC (.int 10)) (eC (.int 50))) aNil)))) (eOp fS (eOp lD (aE 4) (eC (.int 4))) (eC (.int 2)))))) (aB (eC (.int 2)) aNil)))) sNext) iH)
abbrev yI:Sv:=(bQ (sIf (dM (eOp oEq (eOp fS (aE 4) (eC (.int 4))) (eC (.int 1)))) (dU 6 (bE bN (aB (eOp vA (eOp vA (eOp pE (eC (.int 2)) (aE 5)) (eC (.int 1))) (eOp fS (eOp lD (aE 4) (eC (.int 12))) (eOp oIx (eF (iE (aB (eC (.int 3)) (aB (eOp nD (eC (.int 10)) (eC (.int 50))) aNil)))) (eOp fS (eOp lD (aE 4) (eC (.int 4))) (eC (.int 2)))))) (aB (eC (.int 2)) aNil)))) sNext) zBB)
abbrev zBx:Sv:=(bQ (dU 6 (bE bN (aB (eOp fS (eOp lD (aE 4) (eC (.int 12))) (eOp vA (eOp pE (eC (.int 2)) (eB zDB (aB (aE 5) aNil))) (eC (.int 1)))) (aB (eC (.int 2)) aNil)))) yI)
abbrev zBc:Sv:=(bQ (dU 5 (eB rY (aB (aE 2) aNil))) zBx)
abbrev zAy:Sv:=(bQ (dU 4 (eOp fS (bE bB (aB (aE 0) (aB (eC (.int 3)) aNil))) (eOp nD (eC (.int 10)) (eC (.int 60))))) zBc)
abbrev zQ:Sv:=(bQ (dU 3 (bE cY (aB (aE 0) (aB (eOp fS (bE bB (aB (aE 0) (aB (eC (.int 2)) aNil))) (eOp nD (eC (.int 10)) (eC (.int 60)))) (aB (aE 1) (aB (eB pN (aB (aE 2) aNil)) aNil)))))) zAy)
abbrev zBm:Sv:=(bQ (dU 2 (eF (jI dZ (aB (aE 0) (aB (eOp fS (bE bB (aB (aE 0) (aB (eC (.int 1)) aNil))) (eOp nD (eC (.int 10)) (eC (.int 60)))) aNil))))) zQ)
def zEq:Mir:=fn 1 11 (bQ (dU 1 (bE gP (aB (eOp fS (bE bB (aB (aE 0) (aB (eC (.int 0)) aNil))) (eOp nD (eC (.int 10)) (eC (.int 30)))) aNil))) zBm)
end Lw
namespace Lw
open L3 PySem Fr Fq Ln
theorem c_NOUGHT:kD=dq 0:=rfl
local macro_rules | `(tactic| walk_at "ev")=>do
 let ids:Array (Lean.TSyntax `term):=(("c_NOUGHT d_WEIGHTED d_HALF fn_at iZip_at fComp2_at chO_s oEq_s oNe_s oTabNot_s L3.start sSeq_at seqF_nx seqF_ret sSet_at setF sOwn_at ownF sRet_at retF sRetF_at retFF sRetOwn_at retS sRetN sIf_at ifF_t ifF_f sNext sNo sDrop_at dropF dropG eVar_at varS eC eOp_at opF eUn eCall_at callF rtF eB eTup_at tupF aCons_at consF consG aNil tVal_at blF tNotB_at notF tAndB_at tandF_t tandF_f tOrB_at torF_t torF_f eAnd_at andF_t andF_f eOr_at orF_t orF_f eIf_at eifF_t eifF_f eF_at efF fLst_at fLstF fCall_at fcallF rtFF fList_at fListF_l fListF_t fComp_at fRep_at repF fCat_at catF catG eFrz_at frzF oN oS_at oSF fSl_at fSlF fSlG fSlH isNon sApp_at appS appF sAug_at augS augF xSet_at xsetF setG xIf_at sTry_at tryF_ok tryF_err tryE_t tryH_nx eIsE_at sUnp_at unpF nxF bSum_l bSum_t gTup_at gtF_t gCons_at gNil_at gName sFor_at forF iSeq_at seqD_l seqD_t iLst_at lstD iRng1_at sFrz sFrzAt frzAt tFrzB okb erb Rt.d fin oAdd_i oSub_i oMul_i oDiv_i oMod_i oPow_i oEq_i oNe_i oLt_i oLe_i oGt_i oGe_i oIx_tc oNeg_i oNot_b bAbs_i bLen_t bLen_l bMin_i bTup_t bTup_l eIsT_at isTF isT ty_i ty_t ty_l ty_b ty_s ty_n ofO_some atD sRaise_at raiseF Sl.frz noErr dep depS noL noLs List.map_cons List.map_nil List.cons_append List.nil_append List.append_nil List.replicate List.length_cons List.length_nil List.getElem?_cons_zero List.getElem?_cons_succ List.set_cons_zero List.set_cons_succ Nat.reduceAdd Nat.reduceSub Nat.reduceLeDiff Nat.reduceEqDiff Nat.zero_add Nat.sub_self Nat.max_self Nat.zero_le if_true ite_true ite_false if_false Bool.false_eq_true Bool.not_true Bool.not_false reduceIte ite_self Int.toNat_zero Int.reduceToNat Int.reduceLE Int.reduceLT Int.le_refl decide_true decide_false Bool.or_true Bool.or_false Bool.true_or Bool.false_or Bool.and_true Bool.true_and Bool.and_false Bool.false_and String.reduceBEq String.reduceEq beq_self_eq_true ix_dq0 ix_dq1 ty_dq dep_dq noL_dq len_dq eq_dq oEq_dq oNe_dq List.length_map okDiv_lit okMul_litr okMul_litl okp30 okp59 okp60 okp40 p10 fdiv_pos fmod_pos Int.reduceEq Int.reduceNeg p10ne p10ne2 p10pos2 Int.reduceMul Int.reduceAdd Int.reduceSub Int.reduceDiv Int.reduceMod eqD Nat.reduceLT Nat.reducePow ne_eq not_true_eq_false not_false_eq_true".splitOn " ").map fun s=>⟨Lean.mkIdent s.toName⟩).toArray
 `(tactic| simp only [$[$ids:term],*])
theorem mE (t b:Int):cM [.int t,.int b]=.ok (.v (.int (Int.gcd t b:Int))):=by
 unfold cM
 walk_at "ev"
 refine zDn (fun ρ=>∃ (x y:Int) (r:Sl),ρ=[.val (.int x),.val (.int y),r]/\0<=x/\0<=y/\Int.gcd x y=Int.gcd t b) (fun ρ=>(slI 1 ρ).toNat)
  (fun r=>(r.bind (wH (jG (aE 0)))).bind fin=.ok (.v (.int (Int.gcd t b:Int)))) ⟨_,_,_,rfl,by omega,by omega,by simp [Int.gcd]⟩ ?_
 rintro ρ ⟨x,y,r,rfl,hx,hy,hg⟩
 by_cases h:y=0
 ·subst h
  refine .inl ⟨rfl,?_⟩
  have e:x=(Int.gcd t b:Int):=by
   rw [Int.gcd_zero_right] at hg
   omega
  rw [<-e]
  rfl
 ·refine .inr ⟨?_,[.val (.int y),.val (.int (x.fmod y)),.val (.int (x.fmod y))],?_,⟨y,x.fmod y,_,rfl,hy,?_,?_⟩,?_⟩
  ·walk_at "ev"
   rw [decide_eq_false h];rfl
  ·walk_at "ev"
   rw [oMod_i h]
   walk_at "ev"
  ·rw [uF _ hy];exact Int.emod_nonneg _ h
  ·rw [uF _ hy];exact (Fq.wY hx (by omega)).trans hg
  ·have:=Int.emod_lt_of_pos x (show 0 < y by omega)
   rw [uF _ hy]
   show (x % y).toNat < y.toNat
   omega
theorem zGs {t b:Int} (hb:b≠0):(dv t b).natAbs<=b.natAbs:=Nat.le_of_dvd (by omega) (Int.natAbs_dvd_natAbs.mpr (vX t b))
theorem sR {t b:Int} {n:Nat} (hb:b≠0) (hn:b.natAbs < 2^n) (h:n<=8999):eR [.int t,.int b]=.ok (.v (dq (Rat.divInt t b))):=by
 have hd:gN (dv t b)=true:=mP (zEB hb) (Nat.lt_of_le_of_lt (zGs hb) hn) h
 have e0:decide (b=0)=false:=decide_eq_false hb
 unfold eR
 walk_at "ev"
 rw [e0]
 walk_at "ev"
 rw [mE]
 walk_at "ev"
 by_cases c:b < 0
 ·have e:-(Int.gcd t b:Int)=dv t b:=by unfold dv;rw [if_pos c]
  rw [decide_eq_true c]
  walk_at "ev"
  rw [e,oDiv_i hd]
  walk_at "ev"
  rw [oDiv_i hd]
  walk_at "ev"
  rw [tO hb,sX hb]
  rfl
 ·have e:(Int.gcd t b:Int)=dv t b:=by unfold dv;rw [if_neg c]
  rw [decide_eq_false c]
  walk_at "ev"
  rw [e,oDiv_i hd]
  walk_at "ev"
  rw [oDiv_i hd]
  walk_at "ev"
  rw [tO hb,sX hb]
  rfl
theorem zIt (t:Int):eR [.int t,.int 0]=.err "NoFraction" := by
 unfold eR
 walk_at "ev"
theorem zF {p q:Rat} {m n:Nat} (hp:Sz m p) (hq:Sz n q) (h:m+n<=8999):lM [dq p,dq q]=.ok (.v (dq (p+q))):=by
 unfold lM
 walk_at "ev"
 rw [oMul_i (cH hp.1 hq.d (by omega))]
 walk_at "ev"
 rw [oMul_i (cH hq.1 hp.d (by omega))]
 walk_at "ev"
 rw [oMul_i (cH hp.d hq.d (by omega))]
 walk_at "ev"
 rw [sR (Int.mul_ne_zero (eI p) (eI q)) (gI hp.d hq.d) h,zFX]
 walk_at "ev"
theorem hJ {p q:Rat} {m n:Nat} (hp:Sz m p) (hq:Sz n q) (h:m+n<=8999):eP [dq p,dq q]=.ok (.v (dq (p - q))):=by
 unfold eP
 walk_at "ev"
 rw [oMul_i (cH hp.1 hq.d (by omega))]
 walk_at "ev"
 rw [oMul_i (cH hq.1 hp.d (by omega))]
 walk_at "ev"
 rw [oMul_i (cH hp.d hq.d (by omega))]
 walk_at "ev"
 rw [sR (Int.mul_ne_zero (eI p) (eI q)) (gI hp.d hq.d) h,zCX]
 walk_at "ev"
theorem uC {p q:Rat} {m n:Nat} (hp:Sz m p) (hq:Sz n q) (h:m+n<=8999):fV [dq p,dq q]=.ok (.v (dq (p * q))):=by
 unfold fV
 walk_at "ev"
 rw [oMul_i (cH hp.1 hq.1 (by omega))]
 walk_at "ev"
 rw [oMul_i (cH hp.d hq.d (by omega))]
 walk_at "ev"
 rw [sR (Int.mul_ne_zero (eI p) (eI q)) (gI hp.d hq.d) h,zDj]
 walk_at "ev"
theorem zDl {p q:Rat} {m n:Nat} (hp:Sz m p) (hq:Sz n q) (h0:q≠0) (h:m+n<=8999):nE [dq p,dq q]=.ok (.v (dq (p / q))):=by
 unfold nE
 walk_at "ev"
 rw [oMul_i (cH hp.1 hq.d (by omega))]
 walk_at "ev"
 rw [oMul_i (cH hp.d hq.1 (by omega))]
 walk_at "ev"
 rw [sR (Int.mul_ne_zero (eI p) (zDc.mpr h0)) (gI hp.d hq.1) h,zAn]
 walk_at "ev"
theorem nK {p q:Rat} {m n:Nat} (hp:Sz m p) (hq:Sz n q) (h:m+n<=99999):hG [dq p,dq q]=.ok (.v (.bl (decide (p < q)))):=by
 unfold hG
 walk_at "ev"
 rw [oMul_i (cH hp.1 hq.d (by omega))]
 walk_at "ev"
 rw [oMul_i (cH hq.1 hp.d (by omega))]
 walk_at "ev"
 simp only [lt_iff]
theorem zAw {t b:Int} {n:Nat} (hb:0 < b) (hn:b.natAbs < 2^n) (h:n<=8999):bN [.int t,.int b]=.ok (.v (dq (Rat.divInt t b))):=by
 have hb0:b≠0:=by omega
 have hd:gN (dv t b)=true:=mP (zEB hb0) (Nat.lt_of_le_of_lt (zGs hb0) hn) h
 have e:(Int.gcd t b:Int)=dv t b:=by unfold dv;rw [if_neg (by omega)]
 unfold bN
 walk_at "ev"
 refine zDn (fun ρ=>∃ (x y:Int) (r:Sl),ρ=[.val (.int t),.val (.int b),.val (.int x),.val (.int y),r]/\0<=x/\0<=y/\Int.gcd x y=Int.gcd t b) (fun ρ=>(slI 3 ρ).toNat)
  (fun r=>(r.bind (wH gG)).bind fin=.ok (.v (dq (Rat.divInt t b)))) ⟨_,_,_,rfl,by omega,by omega,by simp [Int.gcd]⟩ ?_
 rintro ρ ⟨x,y,r,rfl,hx,hy,hg⟩
 by_cases c:y=0
 ·subst c
  have e2:x=dv t b:=by
   rw [Int.gcd_zero_right] at hg
   omega
  subst e2
  refine .inl ⟨rfl,?_⟩
  walk_at "ev"
  rw [decide_eq_false (zEB hb0)]
  walk_at "ev"
  rw [oDiv_i hd]
  walk_at "ev"
  rw [oDiv_i hd]
  walk_at "ev"
  rw [tO hb0,sX hb0]
  rfl
 ·have hp:0 < y:=by omega
  refine .inr ⟨?_,[.val (.int t),.val (.int b),.val (.int y),.val (.int (x % y)),.val (.int (x % y))],?_,⟨y,x % y,_,rfl,hy,Int.emod_nonneg _ c,(wY hx hp).trans hg⟩,?_⟩
  ·walk_at "ev"
   rw [decide_eq_true hp]
  ·walk_at "ev"
   rw [oMod_i c,fmod_pos _ hp]
   walk_at "ev"
  ·have:=Int.emod_lt_of_pos x hp
   show (x % y).toNat < y.toNat
   omega
theorem dA (ns:List Int) (k:Int) (h:0<=k):bB [.lst (ns.map D.int),.int k]=.ok (.v (.int (ns.getD k.toNat 0))):=by
 unfold bB
 walk_at "ev"
 by_cases c:k < (ns.length:Int)
 ·rw [decide_eq_true c]
  walk_at "ev"
  have hk:k.toNat < ns.length:=by omega
  rw [zAt h (List.getElem?_eq_getElem hk),List.getD_eq_getElem?_getD,List.getElem?_eq_getElem hk]
  rfl
 ·rw [decide_eq_false c]
  walk_at "ev"
  rw [List.getD_eq_getElem?_getD,List.getElem?_eq_none (by omega)]
  rfl
def mn (a b:Rat):Rat:=if a < b then a else b
def ps0 (x:Rat):Rat:=if x < 0 then 0 else x
def fT:List Int->Int->Rat->List Rat
 | [],_,_=>[]
 | c::r,a,q=>mn (ps0 (q - (a:Rat))) (c:Rat)::fT r (a+c) q
theorem sL:∀ (cs:List Int) (a:Int) (q:Rat),(fT cs a q).length=cs.length
 | [],_,_=>rfl
 | c::r,a,q=>by simp only [fT,List.length_cons,sL r]
theorem zFt {q:Rat} {a c:Int} (h:0<=c):ps0 (q - (a:Rat)) - mn (ps0 (q - (a:Rat))) (c:Rat)=ps0 (q - ((a+c:Int):Rat)):=by
 have h':(0:Rat)<=(c:Rat):=by exact_mod_cast h
 rw [Rat.intCast_add]
 unfold ps0 mn
 grind
theorem cK {n:Nat} {k:Int} (h:k.natAbs < 2^n) (h0:0 < n):Sz n (k:Rat):=by
 refine ⟨h,?_⟩
 show 1 < 2^n
 exact Nat.one_lt_two_pow (by omega)
theorem zGE {n:Nat} {q:Rat} (h:Sz n q) (h0:0 < n):Sz n (ps0 q):=by
 unfold ps0
 split
 ·exact cK (k:=0) (Nat.two_pow_pos n) h0
 ·exact h
theorem zEA {n:Nat} {p q:Rat} (h:Sz n p) (h':Sz n q):Sz n (mn p q):=by
 unfold mn
 split
 ·exact h
 ·exact h'
theorem cQ (k:Int):cB [.int k]=.ok (.v (dq (k:Rat))):=by
 unfold cB
 walk_at "ev"
 rw [zFL]
theorem wU {p q:Rat} {m n:Nat} (hp:Sz m p) (hq:Sz n q) (h:m+n<=99999):fX [dq p,dq q]=.ok (.v (dq (mn p q))):=by
 unfold fX
 walk_at "ev"
 rw [nK hp hq h]
 walk_at "ev"
 unfold mn
 by_cases c:p < q
 ·rw [decide_eq_true c,if_pos c]
  walk_at "ev"
 ·rw [decide_eq_false c,if_neg c]
  walk_at "ev"
structure Cl (cs:List Int):Prop where
 nn:∀ c∈cs,0<=c
 up:∀ c∈cs,c < 10^30
 lo:1<=cs.length
 hi:cs.length<=12
theorem zDg:∀ {cs:List Int},(∀ c∈cs,0<=c)->(∀ c∈cs,c < 10^30)->0<=cs.sum/\cs.sum<=cs.length * 10^30
 | [],_,_=>by decide
 | c::r,h,h'=>by
  have ih:=zDg (fun x hx=>h x (List.mem_cons_of_mem _ hx)) fun x hx=>h' x (List.mem_cons_of_mem _ hx)
  have a:=h c List.mem_cons_self
  have b:=h' c List.mem_cons_self
  rw [List.sum_cons,List.length_cons]
  refine ⟨by omega,?_⟩
  have:((r.length+1:Nat):Int) * 10^30=(r.length:Int) * 10^30+10^30:=by rw [Int.natCast_add,Int.add_mul];rfl
  omega
theorem Cl.sum {cs:List Int} (h:Cl cs):0<=cs.sum/\cs.sum < 2^104:=by
 have a:=zDg h.nn h.up
 have b:=h.hi
 refine ⟨a.1,?_⟩
 omega
structure Haul (m:Nat) (q:Rat) (W:Int):Prop where
 nn:0<=q
 up:q<=(W:Rat)
 sz:Sz m q
theorem wW {d:D} {q:Rat} {m:Nat} (hm:m<=3000) (hq:Sz m q):∀ (cs:List Int) (a:Int) (acc:List D) (s t:Sl),(∀ c∈cs,0<=c)->(∀ c∈cs,c < 10^30)->0<=a->a+cs.length * 10^30 < 2^110->acc.length+cs.length<=100->
  ∃ l' s' t',dX (gName 4) kL (cs.map D.int) [.val d,.val (dq q),.val (dq (ps0 (q - (a:Rat)))),.own acc,s,t]=.ok (.nx [.val d,.val (dq q),l',.own (acc++(fT cs a q).map dq),s',t'])
 | [],a,acc,s,t,_,_,_,_,_=>⟨.val (dq (ps0 (q - (a:Rat)))),s,t,by rw [List.map_nil,dX];simp [fT]⟩
 | c::r,a,acc,s,t,h1,h2,h3,h4,h5=>by
  have c0:=h1 c List.mem_cons_self
  have c1:=h2 c List.mem_cons_self
  rw [List.length_cons] at h4 h5
  have e4:((r.length+1:Nat):Int) * 10^30=(r.length:Int) * 10^30+10^30:=by rw [Int.natCast_add,Int.add_mul];rfl
  have r0:0<=(r.length:Int) * 10^30:=Int.mul_nonneg (by omega) (by decide)
  have zl:Sz (m+111) (ps0 (q - (a:Rat))):=zGE (hq.sub (cK (n:=110) (by omega) (by decide))) (by omega)
  have zc:Sz (m+111) (c:Rat):=Sz.mono (m:=110) (cK (by omega) (by decide)) (by omega)
  obtain ⟨l',s',t',e⟩:=wW hm hq r (a+c) (acc++[dq (mn (ps0 (q - (a:Rat))) (c:Rat))]) (.val (.int c)) (.val (dq (mn (ps0 (q - (a:Rat))) (c:Rat)))) (fun x hx=>h1 x (List.mem_cons_of_mem _ hx)) (fun x hx=>h2 x (List.mem_cons_of_mem _ hx)) (by omega) (by omega) (by rw [List.length_append,List.length_singleton];omega)
  refine ⟨l',s',t',?_⟩
  rw [List.map_cons,fU (ρ1:=[.val d,.val (dq q),.val (dq (ps0 (q - (a:Rat)))),.own acc,.val (.int c),t]) rfl,e]
  ·rw [fT,List.map_cons,List.append_assoc];rfl
  ·walk_at "ev"
   rw [cQ]
   walk_at "ev"
   rw [wU zl zc (by omega)]
   walk_at "ev"
   rw [if_pos (by omega)]
   walk_at "ev"
   rw [hJ zl (zEA zl zc) (by omega)]
   walk_at "ev"
   rw [zFt c0]
theorem vG {d:D} {cs:List Int} {q:Rat} (hd:d=.lst (cs.map D.int)∨d=.tup (cs.map D.int)) {m:Nat} (hm:m<=3000) (hc:Cl cs) (hq:Sz m q) (h0:0<=q):dS [d,dq q]=.ok (.f ((fT cs 0 q).map dq)):=by
 have sq:zEm d=.ok (cs.map D.int):=by rcases hd with rfl | rfl<;>rfl
 have:=hc.hi
 obtain ⟨l',s',t',e⟩:=wW (d:=d) hm hq cs 0 [] .un .un hc.nn hc.up (by decide) (by omega) (by rw [List.length_nil];omega)
 have z:ps0 (q - ((0:Int):Rat))=q:=by
  unfold ps0
  rw [show ((0:Int):Rat)=0 from rfl]
  grind
 rw [z] at e
 unfold dS
 walk_at "ev"
 rw [sq]
 walk_at "ev"
 rw [e]
 rfl
def qT (cs:List Int) (q:Rat):List Rat:=cs.map fun c=>Rat.divInt (c * q.num) (max 1 cs.sum * q.den)
theorem zDW {q:Rat} {c W:Int} (h:0 < W):q / (W:Rat) * (c:Rat)=Rat.divInt (c * q.num) (W * q.den):=by
 have hW:(W:Rat)≠0:=by
  intro z
  have:W=0:=by exact_mod_cast z
  omega
 rw [<-zAn q (W:Rat)]
 show Rat.divInt (q.num * ((1:Nat):Int)) (q.den * W) * (c:Rat)=_
 rw [show ((1:Nat):Int)=1 from rfl,Int.mul_one,<-Rat.num_divInt_den (c:Rat),Rat.divInt_mul_divInt]
 show Rat.divInt (q.num * c) (q.den * W * ((1:Nat):Int))=_
 rw [show ((1:Nat):Int)=1 from rfl,Int.mul_one,Int.mul_comm q.num,Int.mul_comm (q.den:Int)]
theorem wB:∀ {cs:List Int},(∀ c∈cs,0<=c)->cs.sum=0->∀ c∈cs,c=0
 | [],_,_,c,h=>by cases h
 | d::r,h,e,c,hc=>by
  rw [List.sum_cons] at e
  have h0:=h d List.mem_cons_self
  have hr:0<=r.sum:=by
   have:∀ l:List Int,(∀ c∈l,0<=c)->0<=l.sum:=by
    intro l
    induction l with
    | nil=>intro _;decide
    | cons a l ih=>intro hl;rw [List.sum_cons];have:=hl a List.mem_cons_self;have:=ih fun x hx=>hl x (List.mem_cons_of_mem _ hx);omega
   exact this r fun x hx=>h x (List.mem_cons_of_mem _ hx)
  rcases List.mem_cons.mp hc with rfl | hc
  ·omega
  ·exact wB (fun x hx=>h x (List.mem_cons_of_mem _ hx)) (by omega) c hc
theorem tQ {d:D} {cs:List Int} {q:Rat} (hd:d=.lst (cs.map D.int)∨d=.tup (cs.map D.int)) {m:Nat} (hm:m<=3000) (hc:Cl cs) (hq:Sz m q):dH [d,dq q]=.ok (.f ((qT cs q).map dq)):=by
 have sm:=hc.sum
 have hi:=hc.hi
 have sq:zEm d=.ok (cs.map D.int):=by rcases hd with rfl | rfl<;>rfl
 have su:rY [d]=.ok (.int cs.sum):=by rcases hd with rfl | rfl;exact bSum_l;exact bSum_t
 have ln:pN [d]=.ok (.int cs.length):=by rcases hd with rfl | rfl<;>(walk_at "ev")
 unfold dH
 walk_at "ev"
 rw [su]
 walk_at "ev"
 by_cases c0:cs.sum=0
 ·rw [decide_eq_true c0]
  walk_at "ev"
  rw [ln]
  walk_at "ev"
  rw [yX (by omega)]
  walk_at "ev"
  have e:(qT cs q).map dq=List.replicate cs.length (dq 0):=by
   unfold qT
   rw [List.map_map,<-List.map_const']
   refine List.map_congr_left fun c h=>?_
   have c0:=wB hc.nn c0 c h
   subst c0
   show dq (Rat.divInt (0 * q.num) _)=dq 0
   rw [Int.zero_mul,Rat.zero_divInt]
  rw [e]
 ·rw [decide_eq_false c0]
  walk_at "ev"
  have W0:0 < cs.sum:=by omega
  have zW:Sz 110 (cs.sum:Rat):=cK (by omega) (by decide)
  have nW:(cs.sum:Rat)≠0:=by
   intro z
   have:cs.sum=0:=by exact_mod_cast z
   omega
  rw [cQ]
  walk_at "ev"
  rw [zDl hq zW nW (by omega)]
  walk_at "ev"
  rw [sq]
  walk_at "ev"
  rw [wF (u:=D.int) (g:=fun c=>dq (Rat.divInt (c * q.num) (max 1 cs.sum * q.den))) (by omega) (fun c h=>by
   have c0:=hc.nn c h
   have c1:=hc.up c h
   walk_at "ev"
   rw [cQ]
   walk_at "ev"
   rw [uC (hq.div zW nW) (cK (n:=110) (k:=c) (by omega) (by decide)) (by omega)]
   walk_at "ev"
   rw [zDW W0,Int.max_eq_right (by omega)])]
  walk_at "ev"
  unfold qT
  rw [List.map_map]
  rfl
def nG (f:Nat->Rat) (l:List Nat):Rat:=(l.map f).sum
theorem bK (f:Nat->Rat) (i:Nat) (l:List Nat):nG f (i::l)=f i+nG f l:=by unfold nG;rw [List.map_cons,List.sum_cons]
theorem rH (f:Nat->Rat):nG f []=0:=rfl
theorem zBu {f g:Nat->Rat}:∀ {l:List Nat},(∀ i∈l,f i<=g i)->nG f l<=nG g l
 | [],_=>Rat.le_refl
 | i::l,h=>by
  rw [bK,bK]
  have a:=h i List.mem_cons_self
  have b:=zBu fun j hj=>h j (List.mem_cons_of_mem _ hj)
  grind
theorem uX {f g:Nat->Rat}:∀ {l:List Nat},(∀ i∈l,f i<=g i)->nG f l=nG g l->∀ i∈l,f i=g i
 | [],_,_,i,hi=>by cases hi
 | j::l,h,e,i,hi=>by
  rw [bK,bK] at e
  have a:=h j List.mem_cons_self
  have hb:∀ i∈l,f i<=g i:=fun k hk=>h k (List.mem_cons_of_mem _ hk)
  have b:=zBu hb
  rcases List.mem_cons.mp hi with rfl | hi
  ·grind
  ·exact uX hb (by grind) i hi
theorem sH {f:Nat->Rat} {l m:List Nat} (h:l.Perm m):nG f l=nG f m:=by
 induction h with
 | nil=>rfl
 | cons x _ ih=>rw [bK,bK,ih]
 | swap x y l=>rw [bK,bK,bK,bK];grind
 | trans _ _ h1 h2=>rw [h1,h2]
theorem qC {w:Nat->Rat} {t:Rat}:∀ {l:List Nat},nG (fun i=>w i * t) l=t * nG w l
 | []=>by rw [rH,rH];grind
 | i::l=>by rw [bK,bK,qC];grind
theorem xD {f g:Nat->Rat} {l:List Nat} (h:∀ i∈l,f i=g i):nG f l=nG g l:=by unfold nG;rw [List.map_congr_left h]
theorem zCB {w:Nat->Rat}:∀ {l:List Nat},(∀ i∈l,0 < w i)->0<=nG w l
 | [],_=>Rat.le_refl
 | i::l,h=>by
  rw [bK]
  have a:=h i List.mem_cons_self
  have b:=zCB fun j hj=>h j (List.mem_cons_of_mem _ hj)
  grind
def jT (c w:Nat->Rat) (t:Rat) (i:Nat):Rat:=mn (w i * t) (c i)
theorem zIS {a b c d:Rat} (h:a<=c) (h':b<=d):mn a b<=mn c d:=by unfold mn;grind
theorem sY {c w:Nat->Rat} {t u:Rat} {i:Nat} (hw:0 < w i) (h:t<=u):jT c w t i<=jT c w u i:=
 zIS (Rat.mul_le_mul_of_nonneg_left h (Rat.le_of_lt hw)) Rat.le_refl
theorem zBU {c w:Nat->Rat} {t u:Rat} {l:List Nat} (hw:∀ i∈l,0 < w i) (h:nG (jT c w t) l=nG (jT c w u) l):∀ i∈l,jT c w t i=jT c w u i:=by
 rcases Rat.le_total (a:=t) (b:=u) with g | g
 ·exact uX (fun i hi=>sY (hw i hi) g) h
 ·exact fun i hi=>(uX (fun i hi=>sY (hw i hi) g) h.symm i hi).symm
theorem zK {L W w c:Rat} (hW:0 < W) (h:L * w / W < c):mn (L * w / W) c=mn (w * (L / W)) c/\mn (w * (L / W)) c=w * (L / W):=by
 have e:L * w / W=w * (L / W):=by grind
 rw [e] at h ⊢
 exact ⟨rfl,if_pos h⟩
theorem zBv {r W w c:Rat} (hW:W≠0) (h:w * r<=c):mn (r * W * w / W) c=w * r:=by
 have e:r * W * w / W=w * r:=by grind
 rw [e]
 unfold mn
 grind
theorem zBk {ci wi cj wj r:Rat} (h1:0 < wi) (h2:0 < wj) (h:ci * wj<=cj * wi) (hr:wi * r<=ci):wj * r<=cj:=by
 have a:wi * r * wj<=ci * wj:=Rat.mul_le_mul_of_nonneg_right hr (Rat.le_of_lt h2)
 have b:wj * r * wi<=cj * wi:=by
  have:wj * r * wi=wi * r * wj:=by grind
  rw [this];exact Rat.le_trans a h
 exact Rat.le_of_mul_le_mul_right b h1
theorem xZ {L W w c b:Rat} (hw:0 < w) (h:¬ L * w / W < c) (hW:0 < W) (hb:b * W<=L):∃ b',b<=b'/\c<=w * b'/\b' * (W - w)<=L - c:=by
 have h1:c * W<=L * w:=by
  have h':=Rat.not_lt.mp h
  have:=Rat.mul_le_mul_of_nonneg_right h' (Rat.le_of_lt hW)
  rwa [Rat.div_mul_cancel (by grind)] at this
 have e1:w * (c / w)=c:=by grind
 have e2:c / w * (W - w)=c * W / w - c:=by grind
 have e3:c * W / w<=L:=by
  have a:c * W / w * w<=L * w:=by rw [Rat.div_mul_cancel (by grind)];exact h1
  exact Rat.le_of_mul_le_mul_right a hw
 rcases Rat.le_total (a:=b) (b:=c / w) with g | g
 ·exact ⟨c / w,g,by rw [e1];exact Rat.le_refl,by rw [e2];grind⟩
 ·refine ⟨b,Rat.le_refl,?_,?_⟩
  ·have:=Rat.mul_le_mul_of_nonneg_left g (Rat.le_of_lt hw)
   rwa [e1] at this
  ·have:=Rat.mul_le_mul_of_nonneg_left g (Rat.le_of_lt hw)
   rw [e1] at this
   grind
structure Wt (ws cs:List Int):Prop where
 len:ws.length=cs.length
 lo:∀ w∈ws,1<=w
 up:∀ w∈ws,w<=10^6
def cR (cs:List Int) (i:Nat):Rat:=((cs.getD i 0:Int):Rat)
def jU:List (Nat×Rat)->List D->List D
 | [],am=>am
 | p::r,am=>jU r (am.set p.1 (dq p.2))
def wS (ws:List Int) (π:List Nat):Int:=(π.map fun i=>ws.getD i 0).sum
theorem kQ (ws:List Int) (i:Nat) (π:List Nat):wS ws (i::π)=ws.getD i 0+wS ws π:=by unfold wS;rw [List.map_cons,List.sum_cons]
theorem dR {l:List Int} {i:Nat} (h:i < l.length):l[i]?=some (l.getD i 0):=by rw [List.getD_eq_getElem?_getD,List.getElem?_eq_getElem h];rfl
theorem zDG {i:Nat} {k e:Ev} {ρ:Rho} {ds:List D} {d:D} {j:Nat} (h1:e ρ=.ok d) (h2:ρ[i]?=some (.own ds)) (h3:k ρ=.ok (.int (j:Int))) (h4:j < ds.length):zFK i k e ρ=.ok (.nx (ρ.set i (.own (ds.set j d)))):=by
 unfold zFK
 rw [h1]
 show (match ρ[i]? with | some (.own ds)=>_ | _=>_)=_
 rw [h2]
 show (k ρ).bind _=_
 rw [h3]
 exact if_pos ⟨Int.natCast_nonneg j,by omega⟩
theorem zHu {ds:List D} {d:D} {i:Nat} (h:i < ds.length):oIx (.lst (ds.set i d)) (.int (i:Int))=.ok d:=by
 have e:=zAt (f:=id) (l:=ds.set i d) (i:=(i:Int)) (a:=d) (Int.natCast_nonneg i) (show (ds.set i d)[i]?=some d from List.getElem?_set_self h)
 rwa [List.map_id] at e
theorem Wt.at {ws cs:List Int} (h:Wt ws cs) {i:Nat} (hi:i < cs.length):1<=ws.getD i 0/\ws.getD i 0<=10^6:=by
 have:=dR (l:=ws) (i:=i) (by rw [h.len];exact hi)
 exact ⟨h.lo _ (List.mem_of_getElem? this),h.up _ (List.mem_of_getElem? this)⟩
theorem Wt.sum {ws cs:List Int} (h:Wt ws cs):∀ {π:List Nat},(∀ i∈π,i < cs.length)->(π.length:Int)<=wS ws π/\wS ws π<=π.length * 10^6
 | [],_=>⟨Int.le_refl _,Int.le_refl _⟩
 | i::π,hi=>by
  have a:=h.at (hi i List.mem_cons_self)
  have b:=h.sum fun j hj=>hi j (List.mem_cons_of_mem _ hj)
  rw [kQ,List.length_cons]
  omega
def Sq (d:D) (l:List Int):Prop:=d=.lst (l.map D.int)∨d=.tup (l.map D.int)
theorem Sq.ix {d:D} {l:List Int} (h:Sq d l) {i:Nat} (hi:i < l.length):oIx d (.int (i:Int))=.ok (.int (l.getD i 0)):=by
 rcases h with rfl | rfl
 ·exact zAt (Int.natCast_nonneg i) (dR hi)
 ·exact zEJ (Int.natCast_nonneg i) (dR hi)
theorem Sq.sum {d:D} {l:List Int} (h:Sq d l):rY [d]=.ok (.int l.sum):=by
 rcases h with rfl | rfl
 ·exact bSum_l
 ·exact bSum_t
theorem Sq.len {d:D} {l:List Int} (h:Sq d l):pN [d]=.ok (.int l.length):=by
 rcases h with rfl | rfl
 ·rw [bLen_l,List.length_map]
 ·rw [bLen_t,List.length_map]
theorem Sq.seq {d:D} {l:List Int} (h:Sq d l):zEm d=.ok (l.map D.int):=by
 rcases h with rfl | rfl<;>rfl
theorem Sq.seqo {d:D} {l:List Int} (h:Sq d l):zBM d=some (l.map D.int):=by
 rcases h with rfl | rfl<;>rfl
theorem zBt {ws cs:List Int} {wd cd:D} (sw:Sq wd ws) (sc:Sq cd cs) {qv s7:Sl} {L:Rat} {W:Int} {i:Nat} {am:List D} (hW:Wt ws cs) (hc:∀ c∈cs,0<=c/\c < 10^30) {m:Nat} (hm:m<=3000) (hL:Sz (m+250) L) (W0:0 < W) (W1:W<=12 * 10^6) (hi:i < cs.length) (ha:am.length=cs.length) {a:Rat} (ea:mn (L * cR ws i / (W:Rat)) (cR cs i)=a):
  bI [.val wd,.val cd,qv,.val (dq L),.val (.int W),.own am,.val (.int (i:Nat)),s7]=
   .ok (.nx [.val wd,.val cd,qv,.val (dq (L - a)),.val (.int (W - ws.getD i 0)),.own (am.set i (dq a)),.val (.int (i:Nat)),.val (dq (L * cR ws i / (W:Rat)))]):=by
 have hiw:i < ws.length:=by rw [hW.len];exact hi
 obtain ⟨w1,w2⟩:=hW.at hi
 obtain ⟨c1,c2⟩:=hc _ (List.mem_of_getElem? (dR hi))
 have zW:Sz 24 (W:Rat):=cK (by omega) (by decide)
 have zw:Sz 20 (cR ws i):=cK (by omega) (by decide)
 have zc:Sz (m+294) (cR cs i):=Sz.mono (m:=100) (cK (by omega) (by decide)) (by omega)
 have nW:(W:Rat)≠0:=by
  intro z
  have:W=0:=by exact_mod_cast z
  omega
 have fw:cB [.int (ws.getD i 0)]=.ok (.v (dq (cR ws i))):=cQ _
 have fc:cB [.int (cs.getD i 0)]=.ok (.v (dq (cR cs i))):=cQ _
 have zx:Sz (m+294) (L * cR ws i / (W:Rat)):=((hL.mul zw).div zW nW).mono (by omega)
 walk_at "ev"
 rw [sw.ix hiw]
 walk_at "ev"
 rw [fw]
 walk_at "ev"
 rw [uC hL zw (by omega)]
 walk_at "ev"
 rw [cQ]
 walk_at "ev"
 rw [zDl (hL.mul zw) zW nW (by omega)]
 walk_at "ev"
 rw [zDG (j:=i) (d:=dq a) (ds:=am) (by
  walk_at "ev"
  rw [sc.ix hi]
  walk_at "ev"
  rw [fc]
  walk_at "ev"
  rw [wU zx zc (by omega),ea]
  walk_at "ev") rfl rfl (by omega)]
 walk_at "ev"
 rw [zHu (by omega)]
 walk_at "ev"
 rw [hJ hL (ea ▸ zEA zx zc) (by omega)]
 walk_at "ev"
 rw [sw.ix hiw]
 walk_at "ev"
theorem oD (ws:List Int):∀ π:List Nat,nG (cR ws) π=(wS ws π:Rat)
 | []=>rfl
 | i::π=>by rw [bK,oD ws π,kQ,Rat.intCast_add];rfl
theorem tY {ws cs:List Int} {wd cd:D} (sw:Sq wd ws) (sc:Sq cd cs) {qv:Sl} {r:Rat} {m:Nat} (hm:m<=3000) (hW:Wt ws cs) (hc:∀ c∈cs,0<=c/\c < 10^30) (hr:Sz (m+150) r):∀ (π:List Nat) (am:List D) (s6 s7:Sl),(∀ i∈π,i < cs.length)->(∀ i∈π,cR ws i * r<=cR cs i)->π.length<=12->am.length=cs.length->
  ∃ l' W' s' t',dX (gName 6) bI (iB π) [.val wd,.val cd,qv,.val (dq (r * (wS ws π:Rat))),.val (.int (wS ws π)),.own am,s6,s7]=
   .ok (.nx [.val wd,.val cd,qv,l',W',.own (jU (π.map fun i=>(i,cR ws i * r)) am),s',t'])
 | [],am,s6,s7,_,_,_,_=>⟨_,_,_,_,rfl⟩
 | i::π,am,s6,s7,h1,h2,h4,h5=>by
  have hi:=h1 i List.mem_cons_self
  obtain ⟨W1,W2⟩:=hW.sum h1
  rw [List.length_cons] at h4 W1 W2
  have zW:Sz 24 (wS ws (i::π):Rat):=cK (by omega) (by decide)
  have nW:(wS ws (i::π):Rat)≠0:=by
   intro z
   have:wS ws (i::π)=0:=by exact_mod_cast z
   omega
  have e1:wS ws (i::π) - ws.getD i 0=wS ws π:=by rw [kQ];omega
  have e2:r * (wS ws (i::π):Rat) - cR ws i * r=r * (wS ws π:Rat):=by
   rw [kQ,Rat.intCast_add]
   show r * (cR ws i+(wS ws π:Rat)) - cR ws i * r=_
   grind
  have tn:=zBt sw sc (qv:=qv) (s7:=s7) (W:=wS ws (i::π)) (am:=am) hW hc hm ((hr.mul zW).mono (by omega)) (by omega) (by omega) hi h5 (zBv nW (h2 i List.mem_cons_self))
  rw [e1,e2] at tn
  obtain ⟨l',W',s',t',e⟩:=tY sw sc hm hW hc hr π (am.set i (dq (cR ws i * r))) _ _ (fun j hj=>h1 j (List.mem_cons_of_mem _ hj)) (fun j hj=>h2 j (List.mem_cons_of_mem _ hj)) (by omega) (by rw [List.length_set];exact h5)
  refine ⟨l',W',s',t',?_⟩
  show dX _ _ (.int (i:Nat)::iB π) _=_
  rw [fU rfl tn,e]
  rfl
theorem tI {ws cs:List Int} {wd cd:D} (sw:Sq wd ws) (sc:Sq cd cs) {qv:Sl} {q:Rat} {m:Nat} (hm:m<=3000) (hW:Wt ws cs) (hc:∀ c∈cs,0<=c/\c < 10^30) (hq:Sz m q):∀ (π:List Nat) (k:Int) (b:Rat) (am:List D) (s6 s7:Sl),(∀ i∈π,i < cs.length)->π.Pairwise (fun i j=>cR cs i * cR ws j<=cR cs j * cR ws i)->π.length<=12->am.length=cs.length->
  0<=k->k+π.length * 10^30 < 2^110->0<=q - (k:Rat)->q - (k:Rat)<=nG (cR cs) π->b * (wS ws π:Rat)<=q - (k:Rat)->
  ∃ t,b<=t/\nG (jT (cR cs) (cR ws) t) π=q - (k:Rat)/\(∀ i∈π,Sz (m+155) (jT (cR cs) (cR ws) t i))/\∃ l' W' s' t',dX (gName 6) bI (iB π) [.val wd,.val cd,qv,.val (dq (q - (k:Rat))),.val (.int (wS ws π)),.own am,s6,s7]=
   .ok (.nx [.val wd,.val cd,qv,l',W',.own (jU (π.map fun i=>(i,jT (cR cs) (cR ws) t i)) am),s',t'])
 | [],k,b,am,s6,s7,_,_,_,_,_,_,h6,h7,_=>⟨b,Rat.le_refl,by rw [rH] at h7 ⊢;grind,fun i h=>by (cases h),_,_,_,_,rfl⟩
 | i::π,k,b,am,s6,s7,h1,h2,h3,h4,h5,h5',h6,h7,h8=>by
  have hi:=h1 i List.mem_cons_self
  have h1':∀ j∈π,j < cs.length:=fun j hj=>h1 j (List.mem_cons_of_mem _ hj)
  obtain ⟨W1,W2⟩:=hW.sum h1
  obtain ⟨V1,V2⟩:=hW.sum h1'
  obtain ⟨w1,w2⟩:=hW.at hi
  obtain ⟨c1,c2⟩:=hc _ (List.mem_of_getElem? (dR hi))
  obtain ⟨p1,p2⟩:=List.pairwise_cons.mp h2
  rw [List.length_cons] at h3 h5' W1 W2
  have ek:((π.length+1:Nat):Int) * 10^30=(π.length:Int) * 10^30+10^30:=by rw [Int.natCast_add,Int.add_mul];rfl
  have k0:0<=(π.length:Int) * 10^30:=Int.mul_nonneg (by omega) (by decide)
  have zW:Sz 24 (wS ws (i::π):Rat):=cK (by omega) (by decide)
  have zk:Sz 110 (k:Rat):=cK (by omega) (by decide)
  have zL:Sz (m+111) (q - (k:Rat)):=(hq.sub zk).mono (by omega)
  have pW:(0:Rat) < (wS ws (i::π):Rat):=by exact_mod_cast (show 0 < wS ws (i::π) by omega)
  have nW:(wS ws (i::π):Rat)≠0:=fun z=>by rw [z] at pW;exact absurd pW (by decide)
  have pw:∀ j,j < cs.length->0 < cR ws j:=fun j hj=>by
   have:=(hW.at hj).1
   unfold cR
   exact_mod_cast (show 0 < ws.getD j 0 by omega)
  have e1:wS ws (i::π) - ws.getD i 0=wS ws π:=by rw [kQ];omega
  have eW:(wS ws (i::π):Rat)=cR ws i+(wS ws π:Rat):=by rw [kQ,Rat.intCast_add];rfl
  have pV:(0:Rat)<=(wS ws π:Rat):=by exact_mod_cast (show 0<=wS ws π by omega)
  generalize hL:q - (k:Rat)=L at h6 h7 h8 zL ⊢
  have loop1:∀ {a:Rat} {l' W' s' t':Sl} {am':List D},mn (L * cR ws i / (wS ws (i::π):Rat)) (cR cs i)=a->dX (gName 6) bI (iB π) [.val wd,.val cd,qv,.val (dq (L - a)),.val (.int (wS ws π)),.own (am.set i (dq a)),.val (.int (i:Nat)),.val (dq (L * cR ws i / (wS ws (i::π):Rat)))]=.ok (.nx [.val wd,.val cd,qv,l',W',.own am',s',t'])->
    dX (gName 6) bI (iB (i::π)) [.val wd,.val cd,qv,.val (dq L),.val (.int (wS ws (i::π))),.own am,s6,s7]=.ok (.nx [.val wd,.val cd,qv,l',W',.own am',s',t']):=fun {a l' W' s' t' am'} ea e=>by
   have tn:=zBt sw sc (qv:=qv) (s7:=s7) (W:=wS ws (i::π)) (am:=am) hW hc hm (zL.mono (by omega)) (by omega) (by omega) hi h4 ea
   rw [e1] at tn
   show dX _ _ (.int (i:Nat)::iB π) _=_
   rw [fU rfl tn]
   exact e
  by_cases hx:L * cR ws i / (wS ws (i::π):Rat) < cR cs i
  ·obtain ⟨x1,x2⟩:=zK pW hx
   generalize hr:L / (wS ws (i::π):Rat)=r at x1 x2
   have zr:Sz (m+135) r:=hr ▸ (zL.div zW nW).mono (by omega)
   have eL:L=r * (wS ws (i::π):Rat):=by rw [<-hr,Rat.div_mul_cancel nW]
   have wr:cR ws i * r<=cR cs i:=by
    have e:L * cR ws i / (wS ws (i::π):Rat)=cR ws i * r:=by rw [<-hr];grind
    rw [e] at hx;exact Rat.le_of_lt hx
   have later:∀ j∈π,cR ws j * r<=cR cs j:=fun j hj=>zBk (pw i hi) (pw j (h1' j hj)) (p1 j hj) wr
   have gj:∀ j∈i::π,jT (cR cs) (cR ws) r j=cR ws j * r:=fun j hj=>by
    have:cR ws j * r<=cR cs j:=by
     rcases List.mem_cons.mp hj with rfl | hj
     ·exact wr
     ·exact later j hj
    unfold jT mn
    grind
   have e2:L - cR ws i * r=r * (wS ws π:Rat):=by rw [eL,eW];grind
   obtain ⟨l',W',s',t',e⟩:=tY sw sc (qv:=qv) hm hW hc (zr.mono (by omega)) π (am.set i (dq (cR ws i * r))) (.val (.int (i:Nat))) (.val (dq (L * cR ws i / (wS ws (i::π):Rat)))) h1' later (by omega) (by rw [List.length_set];exact h4)
   refine ⟨r,Rat.le_of_mul_le_mul_right (by rw [<-eL];exact h8) pW,?_,fun j hj=>?_,l',W',s',t',loop1 (a:=cR ws i * r) (x1.trans x2) ?_⟩
   ·rw [xD gj,qC,oD,<-eL]
   ·rw [gj j hj]
    have v:=hW.at (h1 j hj)
    exact (Sz.mul (m:=20) (n:=m+135) (cK (by omega) (by decide)) zr).mono (by omega)
   ·rw [e2,e,List.map_cons,jU,gj i List.mem_cons_self]
    rw [List.map_congr_left (g:=fun j=>(j,jT (cR cs) (cR ws) r j)) fun j hj=>by rw [gj j (List.mem_cons_of_mem _ hj)]]
  ·have ea:mn (L * cR ws i / (wS ws (i::π):Rat)) (cR cs i)=cR cs i:=if_neg hx
   obtain ⟨b',g1,g2,g3⟩:=xZ (pw i hi) hx pW h8
   have ek2:q - ((k+cs.getD i 0:Int):Rat)=L - cR cs i:=by rw [Rat.intCast_add,<-hL];show q - ((k:Rat)+cR cs i)=_;grind
   have c0:0<=cR cs i:=by unfold cR;exact_mod_cast c1
   have cL:cR cs i<=L:=by
    have y:=Rat.mul_le_mul_of_nonneg_right (Rat.not_lt.mp hx) (Rat.le_of_lt pW)
    rw [Rat.div_mul_cancel nW] at y
    have y2:L * cR ws i<=L * (wS ws (i::π):Rat):=Rat.mul_le_mul_of_nonneg_left (by rw [eW];grind) h6
    exact Rat.le_of_mul_le_mul_right (Rat.le_trans y y2) pW
   rw [bK] at h7
   have g3':b' * (wS ws π:Rat)<=L - cR cs i:=by
    rw [eW] at g3
    have:cR ws i+(wS ws π:Rat) - cR ws i=(wS ws π:Rat):=by grind
    rw [this] at g3;exact g3
   obtain ⟨t,t1,t2,tz,l',W',s',t',e⟩:=tI sw sc (qv:=qv) hm hW hc hq π (k+cs.getD i 0) b' (am.set i (dq (cR cs i))) (.val (.int (i:Nat))) (.val (dq (L * cR ws i / (wS ws (i::π):Rat)))) h1' p2 (by omega) (by rw [List.length_set];exact h4) (by omega) (by omega) (by rw [ek2];grind) (by rw [ek2];grind) (by rw [ek2];exact g3')
   have gi:jT (cR cs) (cR ws) t i=cR cs i:=by
    have:=Rat.mul_le_mul_of_nonneg_left t1 (Rat.le_of_lt (pw i hi))
    unfold jT mn
    grind
   rw [ek2] at e t2
   refine ⟨t,Rat.le_trans g1 t1,?_,fun j hj=>?_,l',W',s',t',loop1 ea ?_⟩
   ·rw [bK,gi,t2];grind
   ·rcases List.mem_cons.mp hj with rfl | hj
    ·rw [gi];exact Sz.mono (m:=100) (cK (by omega) (by decide)) (by omega)
    ·exact tz j hj
   ·rw [e,List.map_cons,jU,gi]
theorem pY {g:Nat->Rat}:∀ (π:List Nat) (am:List D) (j:Nat),(jU (π.map fun i=>(i,g i)) am)[j]?=if j∈π then (if j < am.length then some (dq (g j)) else none) else am[j]?
 | [],am,j=>by simp [jU]
 | i::π,am,j=>by
  rw [List.map_cons,jU,pY π,List.length_set]
  by_cases h1:j∈π
  ·rw [if_pos h1,if_pos (List.mem_cons_of_mem _ h1)]
  ·rw [if_neg h1]
   by_cases h2:j=i
   ·subst h2
    rw [if_pos List.mem_cons_self]
    by_cases h3:j < am.length
    ·rw [if_pos h3];exact List.getElem?_set_self h3
    ·rw [if_neg h3,List.getElem?_eq_none (by rw [List.length_set];omega)]
   ·rw [if_neg (by simp [h1,h2]),List.getElem?_set_ne (fun z=>h2 z.symm)]
theorem xT {g:Nat->Rat} {π:List Nat} {n:Nat} (h:π.Perm (List.range n)):jU (π.map fun i=>(i,g i)) (List.replicate n (dq 0))=((List.range n).map g).map dq:=by
 refine List.ext_getElem? fun j=>?_
 rw [pY,List.getElem?_map,List.getElem?_map,List.length_replicate]
 by_cases hj:j < n
 ·rw [if_pos (h.mem_iff.mpr (List.mem_range.mpr hj)),if_pos hj,List.getElem?_range hj];rfl
 ·rw [if_neg (fun z=>hj (List.mem_range.mp (h.mem_iff.mp z))),List.getElem?_eq_none (by rw [List.length_replicate];omega),List.getElem?_eq_none (by rw [List.length_range];omega)];rfl
theorem zBb (kz:List Int):∃ π,eX kz π:=⟨_,zBG kz⟩
theorem zDU {fs:Fv} {kf:List D->Res (List Int)} {g:Gv} {b r:Sv} {ρ:Rho} {kz:List Int} {x:Res Fl} (h1:(fs ρ).bind kf=.ok kz) (h:∀ π,eX kz π->bQ (fun ρ=>dX g b (iB π) ρ) r ρ=x):zCg fs kf g b r ρ=x:=by
 obtain ⟨π,hπ⟩:=zBb kz
 unfold zCg
 rw [h1]
 exact yA hπ h
def pX:List Rat->Int
 | []=>1
 | x::r=>x.den * pX r
def zDo (B:Int) (x:Rat):Int:=x.num * B.fdiv x.den
theorem vO:∀ {l:List Rat} {x:Rat},x∈l->(x.den:Int) ∣ pX l
 | y::r,x,h=>by
  rcases List.mem_cons.mp h with rfl | h
  ·exact ⟨pX r,rfl⟩
  ·exact Int.dvd_trans (vO h) ⟨y.den,Int.mul_comm _ _⟩
theorem wP:∀ l:List Rat,0 < pX l
 | []=>by decide
 | x::r=>Int.mul_pos (rD x) (wP r)
theorem zFV {l:List Rat} {x:Rat} (h:x∈l):((zDo (pX l) x:Int):Rat)=x * (pX l:Rat):=by
 obtain ⟨k,hk⟩:=vO h
 have d0:=rD x
 unfold zDo
 rw [fdiv_pos _ d0,hk,Int.mul_ediv_cancel_left _ (by omega),Rat.intCast_mul,Rat.intCast_mul]
 have e:x * ((x.den:Int):Rat)=(x.num:Rat):=by
  have h1:=Rat.num_divInt_den x
  rw [Rat.divInt_eq_div] at h1
  have h2:((x.den:Int):Rat)≠0:=fun z=>by
   have:(x.den:Int)=0:=by exact_mod_cast z
   omega
  rw [<-Rat.div_mul_cancel (a:=(x.num:Rat)) h2,h1]
 rw [<-e]
 grind
theorem sI {a:Sl}:∀ (l:List Rat) (B:Int) (s:Sl) (m:Nat),(∀ x∈l,(x.den:Int)<=10^6)->B.natAbs < 2^m->m+20 * l.length<=1000->
  ∃ s',dX (gName 2) pK (l.map dq) [a,.val (.int B),s]=.ok (.nx [a,.val (.int (B * pX l)),s'])/\(B * pX l).natAbs < 2^(m+20 * l.length)
 | [],B,s,m,_,h2,_=>⟨s,by rw [List.map_nil,dX,pX,Int.mul_one],by rw [pX,Int.mul_one];exact h2⟩
 | x::r,B,s,m,h1,h2,h3=>by
  have d1:=h1 x List.mem_cons_self
  have d0:=rD x
  rw [List.length_cons] at h3
  have hx:((x.den:Int)).natAbs < 2^20:=by omega
  obtain ⟨s',e,hb⟩:=sI r (B * x.den) (.val (dq x)) (m+20) (fun y hy=>h1 y (List.mem_cons_of_mem _ hy)) (gI h2 hx) (by omega)
  have ed:B * pX (x::r)=B * x.den * pX r:=by rw [pX,Int.mul_assoc]
  refine ⟨s',?_,by rw [ed,List.length_cons,show m+20 * (r.length+1)=m+20+20 * r.length by omega];exact hb⟩
  rw [ed,<-e,List.map_cons]
  refine fU (ρ1:=[a,.val (.int B),.val (dq x)]) rfl ?_
  walk_at "ev"
  rw [oMul_i (cH (m:=m) (n:=20) h2 hx (by omega))]
  walk_at "ev"
theorem wC {B:Int} (hB:B.natAbs < 2^1000):∀ {l:List Rat},(∀ x∈l,(x.den:Int)<=10^6/\Sz 500 x)->iY B (l.map dq)=.ok (l.map (zDo B))
 | [],_=>rfl
 | x::r,h=>by
  obtain ⟨d1,z⟩:=h x List.mem_cons_self
  have d0:=rD x
  have e1:gN (x.den:Int)=true:=mP (m:=20) (by omega) (by omega) (by decide)
  have e2:fI x.num (B.fdiv x.den)=true:=by
   rw [fdiv_pos _ d0]
   refine cH (m:=500) (n:=1000) z.1 (Nat.lt_of_le_of_lt ?_ hB) (by decide)
   exact Int.natAbs_ediv_le_natAbs _ _
  have k1:zBN B (dq x)=.ok (zDo B x):=by
   show (if (gN (x.den:Int) && fI x.num (B.fdiv x.den))=true then Res.ok _ else .no)=_
   rw [e1,e2];rfl
  rw [List.map_cons,iY,k1]
  show ((iY B (r.map dq)).bind fun ks=>Res.ok (zDo B x::ks))=_
  rw [wC hB fun y hy=>h y (List.mem_cons_of_mem _ hy)]
  rfl
theorem xY {l:List Rat} (h:∀ x∈l,(x.den:Int)<=10^6/\Sz 500 x) (hl:l.length<=12):iG [.lst (l.map dq)]=.ok (l.map (zDo (pX l))):=by
 obtain ⟨s',e,hb⟩:=sI (a:=.val (.lst (l.map dq))) l 1 .un 1 (fun x hx=>(h x hx).1) (by decide) (by omega)
 rw [Int.one_mul] at e hb
 have r1:tK (start 3 [.lst (l.map dq)])=.ok (.nx [.val (.lst (l.map dq)),.val (.int 1),.un]):=rfl
 have r2:nY [.val (.lst (l.map dq)),.val (.int 1),.un]=.ok (.nx [.val (.lst (l.map dq)),.val (.int (pX l)),s']):=by
  walk_at "ev"
  exact e
 unfold iG qV
 rw [if_pos (show [D.lst (l.map dq)].length=1 from rfl),r1]
 show (match nY [.val (.lst (l.map dq)),.val (.int 1),.un] with | .ok (.nx ρ')=>vW ρ' | _=>.no)=_
 rw [r2]
 show (if (l.map dq).length < 64 then iY (pX l) (l.map dq) else .no)=_
 rw [if_pos (by rw [List.length_map];omega)]
 exact wC (Nat.lt_of_lt_of_le hb (Nat.pow_le_pow_right (by decide) (by omega))) h
def lvs (ws cs:List Int):List Rat:=(cs.zip ws).map fun p=>Rat.divInt p.1 p.2
theorem zAM {ws cs:List Int} (h:ws.length=cs.length):(lvs ws cs).length=cs.length:=by unfold lvs;rw [List.length_map,List.length_zip,h,Nat.min_self]
theorem zGv {ws cs:List Int} {i:Nat} (h:ws.length=cs.length) (hi:i < cs.length):(lvs ws cs)[i]?=some (cR cs i / cR ws i):=by
 unfold lvs
 rw [List.getElem?_map]
 have:(cs.zip ws)[i]?=some (cs.getD i 0,ws.getD i 0):=by
  rw [List.getElem?_zip_eq_some]
  exact ⟨dR hi,dR (by omega)⟩
 rw [this]
 show some (Rat.divInt _ _)=_
 rw [Rat.divInt_eq_div]
 rfl
theorem zBA {t b:Int} (hb:0 < b):((Rat.divInt t b).den:Int)<=b:=by
 have e:=sX (t:=t) (b:=b) (by omega)
 have d0:0<=dv t b:=by unfold dv;rw [if_neg (by omega)];exact Int.natCast_nonneg _
 rw [<-e,zEI _ d0]
 exact Int.ediv_le_self _ (by omega)
theorem zGw {ws cs:List Int} (hW:Wt ws cs) (hc:∀ c∈cs,0<=c/\c < 10^30):∀ x∈lvs ws cs,(x.den:Int)<=10^6/\Sz 500 x:=fun x hx=>by
 obtain ⟨p,hp,rfl⟩:=List.mem_map.mp hx
 obtain ⟨h1,h2⟩:=List.of_mem_zip hp
 have c:=hc _ h1
 have w1:=hW.lo _ h2
 have w2:=hW.up _ h2
 have d:=zBA (t:=p.1) (b:=p.2) (by omega)
 exact ⟨by omega,Sz.of (by omega) (by omega) (by omega)⟩
theorem uK {ws cs:List Int} {wd cd:D} (sw:Sq wd ws) (sc:Sq cd cs) (hW:Wt ws cs) (hl:cs.length<=12):dO [wd,cd]=.ok (.f ((lvs ws cs).map dq)):=by
 have hw:=hW.len
 unfold dO
 walk_at "ev"
 rw [rK sc.seqo sw.seqo]
 walk_at "ev"
 rw [jK (u:=D.int) (v:=D.int) (g:=fun c w=>dq (Rat.divInt c w)) (by omega) (fun p hp=>by
  have h2:=(List.of_mem_zip hp).2
  have w1:=hW.lo _ h2
  have w2:=hW.up _ h2
  walk_at "ev"
  rw [sR (n:=20) (by omega) (by omega) (by decide)]
  walk_at "ev")]
 walk_at "ev"
 unfold lvs
 rw [List.map_map]
 rfl
theorem vK (ws:List Int):∀ n,n<=ws.length->wS ws (List.range n)=(ws.take n).sum
 | 0,_=>rfl
 | n+1,h=>by
  have e:wS ws (List.range n++[n])=wS ws (List.range n)+ws.getD n 0:=by unfold wS;rw [List.map_append,List.sum_append];simp
  rw [List.range_succ,e,vK ws n (by omega),List.take_succ,List.sum_append,dR (show n < ws.length by omega)]
  simp
theorem zAa {ws:List Int} {π:List Nat} (h:π.Perm (List.range ws.length)):wS ws π=ws.sum:=by
 have e:=oD ws π
 rw [sH h,oD,vK ws _ (Nat.le_refl _),List.take_length] at e
 have:=Rat.intCast_inj.mp e
 omega
theorem zHF {a b:Sv} {ρ ρ':Rho} (h:a ρ=.ok (.nx ρ')):bQ a b ρ=b ρ':=by unfold bQ;rw [h];rfl
def evs (ws cs:List Int) (t:Rat):List Rat:=(List.range cs.length).map (jT (cR cs) (cR ws) t)
theorem lN {ws cs:List Int} {wd cd:D} (sw:Sq wd ws) (sc:Sq cd cs) {q:Rat} {m:Nat} (hmm:m<=3000) (hW:Wt ws cs) (hc:Cl cs) (hq:Sz m q) (h0:0<=q) (h1:q<=(cs.sum:Rat)):∃ t,0<=t/\cE [wd,cd,dq q]=.ok (.f ((evs ws cs t).map dq))/\(evs ws cs t).sum=q/\∀ i,i < cs.length->Sz (m+155) (jT (cR cs) (cR ws) t i):=by
 have hcc:∀ c∈cs,0<=c/\c < 10^30:=fun c h=>⟨hc.nn c h,hc.up c h⟩
 have hi:=hc.hi
 have hw:=hW.len
 have hkr:=xY (zGw hW hcc) (by rw [zAM hw];exact hi)
 generalize hkz:(lvs ws cs).map (zDo (pX (lvs ws cs)))=kz at hkr
 have lz:kz.length=cs.length:=by rw [<-hkz,List.length_map,zAM hw]
 have pw:∀ j,j < cs.length->0 < cR ws j:=fun j hj=>by
  have:=(hW.at hj).1
  unfold cR
  exact_mod_cast (show 0 < ws.getD j 0 by omega)
 have one:∀ π,eX kz π->∃ t,0<=t/\nG (jT (cR cs) (cR ws) t) (List.range cs.length)=q/\(∀ i,i < cs.length->Sz (m+155) (jT (cR cs) (cR ws) t i))/\bQ (fun ρ=>dX (gName 6) bI (iB π) ρ) fJ [.val wd,.val cd,.val (dq q),.val (dq q),.val (.int ws.sum),.own (List.replicate cs.length (dq 0)),.un,.un]=.ok (.ret (.f ((evs ws cs t).map dq))):=by
  intro π hπ
  obtain ⟨hp,ho,_⟩:=hπ
  rw [lz] at hp
  have hm:∀ i∈π,i < cs.length:=fun i h=>List.mem_range.mp (hp.mem_iff.mp h)
  have hl:π.length=cs.length:=by rw [hp.length_eq,List.length_range]
  have B0:=wP (lvs ws cs)
  have B0':(0:Rat) < (pX (lvs ws cs):Rat):=by exact_mod_cast B0
  have kat:∀ i,i < cs.length->((kz.getD i 0:Int):Rat)=cR cs i / cR ws i * (pX (lvs ws cs):Rat):=fun i h=>by
   have e:=zGv hw h
   have e2:kz.getD i 0=zDo (pX (lvs ws cs)) (cR cs i / cR ws i):=by rw [<-hkz,List.getD_eq_getElem?_getD,List.getElem?_map,e];rfl
   rw [e2]
   exact zFV (List.mem_of_getElem? e)
  have ord:π.Pairwise (fun i j=>cR cs i * cR ws j<=cR cs j * cR ws i):=by
   refine List.Pairwise.imp_of_mem (fun {i j} h1 h2 h3=>?_) ho
   have h4:((kz.getD i 0:Int):Rat)<=((kz.getD j 0:Int):Rat):=Rat.intCast_le_intCast.mpr h3
   rw [kat i (hm i h1),kat j (hm j h2)] at h4
   have h5:=Rat.le_of_mul_le_mul_right h4 B0'
   have wi:=pw i (hm i h1)
   have wj:=pw j (hm j h2)
   have h6:=Rat.mul_le_mul_of_nonneg_right h5 (Rat.le_of_lt (Rat.mul_pos wi wj))
   have e1:cR cs i / cR ws i * (cR ws i * cR ws j)=cR cs i * cR ws j:=by grind
   have e2:cR cs j / cR ws j * (cR ws i * cR ws j)=cR cs j * cR ws i:=by grind
   rwa [e1,e2] at h6
  have hW':wS ws π=ws.sum:=zAa (by rw [hw];exact hp)
  have hC':nG (cR cs) π=(cs.sum:Rat):=by rw [oD,zAa hp]
  have z0:q - ((0:Int):Rat)=q:=by rw [show ((0:Int):Rat)=0 from rfl];grind
  obtain ⟨t,t1,t2,tz,l',W',s',t',e⟩:=tI sw sc (qv:=.val (dq q)) hmm hW hcc hq π 0 0 (List.replicate cs.length (dq 0)) .un .un hm ord (by omega) (by rw [List.length_replicate]) (by decide) (by rw [hl];omega) (by rw [z0];exact h0) (by rw [z0,hC'];exact h1) (by rw [z0];grind)
  rw [z0,hW'] at e
  rw [z0] at t2
  refine ⟨t,t1,by rw [<-sH hp];exact t2,fun i h=>tz i (hp.mem_iff.mpr (List.mem_range.mpr h)),?_⟩
  refine (zHF (a:=fun ρ=>dX (gName 6) bI (iB π) ρ) e).trans ?_
  rw [xT hp]
  rfl
 obtain ⟨π0,hπ0⟩:=zBb kz
 obtain ⟨t,t1,t2,tz,e0⟩:=one π0 hπ0
 have pw':∀ i∈List.range cs.length,0 < cR ws i:=fun i h=>pw i (List.mem_range.mp h)
 refine ⟨t,t1,?_,t2,tz⟩
 unfold cE
 walk_at "ev"
 rw [sw.sum]
 walk_at "ev"
 rw [sc.len]
 walk_at "ev"
 rw [yX (by omega)]
 walk_at "ev"
 have hfs:Res.bind ((aB (eF (jI dO (aB (aE 0) (aB (aE 1) aNil)))) aNil) [.val wd,.val cd,.val (dq q),.val (dq q),.val (.int ws.sum),.own (List.replicate cs.length (dq 0)),.un,.un]) iG=.ok kz:=by
  walk_at "ev"
  rw [uK sw sc hW hi]
  walk_at "ev"
  exact hkr
 have hall:∀ π,eX kz π->bQ (fun ρ=>dX (gName 6) bI (iB π) ρ) fJ [.val wd,.val cd,.val (dq q),.val (dq q),.val (.int ws.sum),.own (List.replicate cs.length (dq 0)),.un,.un]=.ok (.ret (.f ((evs ws cs t).map dq))):=fun π hπ=>by
  obtain ⟨u,_,u2,_,eu⟩:=one π hπ
  rw [eu]
  unfold evs
  rw [List.map_congr_left (zBU pw' (u2.trans t2.symm))]
 unfold iP
 rw [zDU hfs hall]
 rfl
def ones (cs:List Int):List Int:=List.replicate cs.length 1
theorem zFp (cs:List Int):Wt (ones cs) cs:=⟨List.length_replicate,fun w h=>by rw [(List.mem_replicate.mp h).2];decide,fun w h=>by rw [(List.mem_replicate.mp h).2];decide⟩
def hf:Rat:=Rat.divInt 1 2
theorem zIE:d_HALF=dq hf:=zGo (b:=2) (by decide)
theorem zGD:Sz 2 hf:=Sz.of (by decide) (by decide) (by decide)
theorem dbl (q:Rat):q+q=q * ((2:Int):Rat):=by rw [show ((2:Int):Rat)=2 from rfl];grind
theorem zAO {q:Rat} {n:Nat} (h:Sz n q):Sz (n+2) (q+q):=by rw [dbl];exact h.mul (cK (by decide) (by decide))
def hvs (cs:List Int) (t:Rat):List Rat:=(List.range cs.length).map fun i=>jT (cR cs) (cR (ones cs)) t i * hf
structure Lvl (M:Nat) (ws cs:List Int) (q t:Rat):Prop where
 nn:0<=t
 sum:(evs ws cs t).sum=q
 sz:∀ i,i < cs.length->Sz M (jT (cR cs) (cR ws) t i)
theorem sE {cs:List Int} {cd:D} (sc:Sq cd cs) {q:Rat} {m:Nat} (hm:m<=2990) (hc:Cl cs) (hq:Sz m q) (h0:0<=q) (h1:q+q<=(cs.sum:Rat)):∃ t,Lvl (m+157) (ones cs) cs (q+q) t/\dG [cd,dq q]=.ok (.f ((hvs cs t).map dq)):=by
 have hi:=hc.hi
 obtain ⟨t,t1,e,t2,tz⟩:=lN (wd:=.lst ((ones cs).map D.int)) (.inl rfl) sc (m:=m+2) (by omega) (zFp cs) hc (zAO hq) (by grind) h1
 refine ⟨t,⟨t1,t2,fun i h=>(tz i h).mono (by omega)⟩,?_⟩
 have eo:(ones cs).map D.int=List.replicate cs.length (.int 1):=by unfold ones;rw [List.map_replicate]
 rw [eo] at e
 have hh:=zIE
 unfold d_HALF at hh
 unfold dG
 walk_at "ev"
 rw [sc.len]
 walk_at "ev"
 rw [yX (by omega)]
 walk_at "ev"
 rw [zF hq hq (by omega)]
 walk_at "ev"
 rw [e]
 walk_at "ev"
 rw [show (evs (ones cs) cs t).map dq=(List.range cs.length).map (fun i=>dq (jT (cR cs) (cR (ones cs)) t i)) by unfold evs;rw [List.map_map];rfl]
 rw [wF (u:=fun i=>dq (jT (cR cs) (cR (ones cs)) t i)) (g:=fun i=>dq (jT (cR cs) (cR (ones cs)) t i * hf)) (by rw [List.length_range];omega) (fun i h=>by
  have hil:=List.mem_range.mp h
  walk_at "ev"
  rw [hh,uC (tz i hil) zGD (by omega)]
  walk_at "ev")]
 walk_at "ev"
 unfold hvs
 rw [List.map_map]
 rfl
theorem Lvl.mono {M M':Nat} {ws cs:List Int} {q t:Rat} (h:Lvl M ws cs q t) (l:M<=M'):Lvl M' ws cs q t:=⟨h.nn,h.sum,fun i hi=>(h.sz i hi).mono l⟩
theorem iT {w v:Str} (h:aQ.lookup w=some v):bV [.str w]=.ok (.v .non):=by
 unfold bV
 walk_at "ev"
 rw [h]
 rfl
theorem gQ {cs:List Int} {cd:D} (sc:Sq cd cs) (hc:Cl cs):bS [cd]=.ok (.v .non):=by
 have lo:=hc.lo
 unfold bS
 walk_at "ev"
 rw [sc.len]
 walk_at "ev"
 rw [decide_eq_false (by omega)]
 walk_at "ev"
 rw [sc.seq]
 walk_at "ev"
 refine zAl (Q:=fun r=>r=(.ok (.v .non):Res Rt)) (fun ρ=>∃ a,ρ=[.val cd,a]) ⟨_,rfl⟩ ?_ ?_
 ·rintro e ρ he ⟨a,rfl⟩
  obtain ⟨c,h,rfl⟩:=List.mem_map.mp he
  have:=hc.nn c h
  refine ⟨_,?_,.val (.int c),rfl⟩
  walk_at "ev"
  rw [decide_eq_false (by omega)]
  walk_at "ev"
 ·rintro ρ ⟨a,rfl⟩
  rfl
theorem lX {q:Rat} {W:Int} {m:Nat} (hm:m<=3000) (h:Haul m q W) (hW:W.natAbs < 2^110):bJ [dq q,dq (W:Rat)]=.ok (.v .non):=by
 have z0:Sz 1 (0:Rat):=⟨by decide,by decide⟩
 have zW:Sz 110 (W:Rat):=cK hW (by decide)
 have n1:¬ q < 0:=Rat.not_lt.mpr h.nn
 have n2:¬ (W:Rat) < q:=Rat.not_lt.mpr h.up
 have io:cW [dq q,dq (W:Rat)]=.ok (.v (.bl false)):=by
  unfold cW
  walk_at "ev"
  rw [nK h.sz z0 (by omega),decide_eq_false n1]
  walk_at "ev"
  rw [nK zW h.sz (by omega),decide_eq_false n2]
  walk_at "ev"
 unfold bJ
 walk_at "ev"
 rw [io]
 walk_at "ev"
theorem iC {α β:Type} (l:List α) (f:Nat->β) (d:α):l.zip ((List.range l.length).map f)=(List.range l.length).map fun i=>(l.getD i d,f i):=by
 refine List.ext_getElem? fun i=>?_
 rw [List.getElem?_map]
 by_cases h:i < l.length
 ·rw [List.getElem?_range h]
  refine List.getElem?_zip_eq_some.mpr ⟨?_,by rw [List.getElem?_map,List.getElem?_range h];rfl⟩
  show l[i]?=some (l.getD i d)
  rw [List.getD_eq_getElem?_getD,List.getElem?_eq_getElem h];rfl
 ·rw [List.getElem?_eq_none (by rw [List.length_zip];omega),List.getElem?_eq_none (by rw [List.length_range];omega)];rfl
theorem fA {w:Str} {d:D} {n:Int} (hd:d=.lst []∨d=.tup []) (hw:oIn (.str w) d_WEIGHTED=.ok (.bl false)):aZ [.str w,d,.int n]=.ok (.v .non):=by
 have sq:zEm d=.ok []:=by rcases hd with rfl | rfl<;>rfl
 have ln:pN [d]=.ok (.int 0):=by rcases hd with rfl | rfl<;>rfl
 unfold d_WEIGHTED at hw
 unfold aZ
 walk_at "ev"
 rw [hw]
 walk_at "ev"
 rw [ln]
 walk_at "ev"
 rw [sq]
 rfl
theorem zEs:kB 10 6=true:=by decide
theorem kO {w:Str} {ws cs:List Int} {wd:D} (sw:Sq wd ws) (hW:Wt ws cs) (hw:oIn (.str w) d_WEIGHTED=.ok (.bl true)):aZ [.str w,wd,.int cs.length]=.ok (.v .non):=by
 have hl:=hW.len
 unfold d_WEIGHTED at hw
 unfold aZ
 walk_at "ev"
 rw [hw]
 walk_at "ev"
 rw [sw.len]
 walk_at "ev"
 rw [hl,decide_eq_true rfl]
 walk_at "ev"
 rw [sw.seq]
 walk_at "ev"
 refine zAl (Q:=fun r=>r=(.ok (.v .non):Res Rt)) (fun ρ=>∃ a,ρ=[.val (.str w),.val wd,.val (.int cs.length),.val (.int cs.length),a]) ⟨_,rfl⟩ ?_ ?_
 ·rintro e ρ he ⟨a,rfl⟩
  obtain ⟨c,h,rfl⟩:=List.mem_map.mp he
  have h1:=hW.lo c h
  have h2:=hW.up c h
  refine ⟨_,?_,.val (.int c),rfl⟩
  walk_at "ev"
  rw [decide_eq_false (by omega)]
  walk_at "ev"
  rw [oPow_i zEs]
  walk_at "ev"
  rw [decide_eq_false (by omega)]
  walk_at "ev"
 ·rintro ρ ⟨a,rfl⟩
  rfl
theorem zJU:(Str.ofString "even" == Str.ofString "row")=false:=by decide
theorem zJF:(Str.ofString "lack" == Str.ofString "row")=false:=by decide
theorem zJX:(Str.ofString "lack" == Str.ofString "even")=false:=by decide
theorem zJI:(Str.ofString "lack" == Str.ofString "part")=false:=by decide
theorem zJD:(Str.ofString "lack" == Str.ofString "half")=false:=by decide
theorem zCe:(aQ.lookup (Str.ofString "even"))=some (Str.ofString "lack"):=by decide
theorem wK:(aQ.lookup (Str.ofString "lack"))=some (Str.ofString "even"):=by decide
theorem zDz {n:Nat} {ws cs:List Int} {wd cd:D} (sw:Sq wd ws) (sc:Sq cd cs) {q:Rat} {m:Nat} (hm:m<=3000) (hW:Wt ws cs) (hc:Cl cs) (hq:Sz m q) (h0:0<=q) (h1:q<=(cs.sum:Rat)):∃ t,Lvl (m+155) ws cs q t/\aG (n+1) [.str (Str.ofString "even"),wd,cd,dq q]=.ok (.f ((evs ws cs t).map dq)):=by
 obtain ⟨t,t1,e,t2,tz⟩:=lN sw sc hm hW hc hq h0 h1
 refine ⟨t,⟨t1,t2,tz⟩,?_⟩
 show aP (aG n) _=_
 unfold aP
 walk_at "ev"
 rw [sc.sum]
 walk_at "ev"
 rw [cQ]
 walk_at "ev"
 rw [zJU]
 walk_at "ev"
 rw [e]
 walk_at "ev"
def lks (ws cs:List Int) (t:Rat):List Rat:=(cs.zip (evs ws cs t)).map fun p=>(p.1:Rat) - p.2
theorem zGI (ws cs:List Int) (t:Rat):lks ws cs t=(List.range cs.length).map fun i=>cR cs i - jT (cR cs) (cR ws) t i:=by
 unfold lks evs
 rw [iC cs _ 0,List.map_map]
 rfl
theorem zHN {n:Nat} {ws cs:List Int} {wd cd:D} (sw:Sq wd ws) (sc:Sq cd cs) {q:Rat} {m:Nat} (hm:m<=2890) (hW:Wt ws cs) (hc:Cl cs) (hq:Haul m q cs.sum):∃ t,Lvl (m+261) ws cs ((cs.sum:Rat) - q) t/\aG (n+2) [.str (Str.ofString "lack"),wd,cd,dq q]=.ok (.f ((lks ws cs t).map dq)):=by
 have sm:=hc.sum
 have hi:=hc.hi
 have zW:Sz 105 (cs.sum:Rat):=cK (by omega) (by decide)
 have zT:Sz (m+106) ((cs.sum:Rat) - q):=(zW.sub hq.sz).mono (by omega)
 have u:=hq.up
 have u':=hq.nn
 obtain ⟨t,tl,e⟩:=zDz sw sc (n:=n) (m:=m+106) (by omega) hW hc zT (by grind) (by grind)
 refine ⟨t,tl,?_⟩
 show aP (aG (n+1)) _=_
 unfold aP
 walk_at "ev"
 rw [sc.sum]
 walk_at "ev"
 rw [cQ]
 walk_at "ev"
 rw [zJF]
 walk_at "ev"
 rw [zJX]
 walk_at "ev"
 rw [zJI]
 walk_at "ev"
 rw [zJD]
 walk_at "ev"
 rw [show pI aQ (.str (Str.ofString "lack"))=.ok (.str (Str.ofString "even")) by show zGS (aQ.lookup (Str.ofString "lack"))=_;rw [wK];rfl]
 walk_at "ev"
 rw [hJ zW hq.sz (by omega)]
 walk_at "ev"
 rw [e]
 walk_at "ev"
 rw [rK sc.seqo rfl]
 walk_at "ev"
 rw [jK (u:=D.int) (v:=dq) (g:=fun c l=>dq ((c:Rat) - l)) (by omega) (fun p hp=>by
  have hp':=hp
  unfold evs at hp'
  rw [iC cs _ 0] at hp'
  obtain ⟨i,hir,rfl⟩:=List.mem_map.mp hp'
  have hil:=List.mem_range.mp hir
  have c1:=hc.nn _ (List.mem_of_getElem? (dR hil))
  have c2:=hc.up _ (List.mem_of_getElem? (dR hil))
  walk_at "ev"
  rw [cQ]
  walk_at "ev"
  rw [hJ (m:=100) (n:=m+261) (cK (by omega) (by decide)) (tl.sz i hil) (by omega)]
  walk_at "ev")]
 walk_at "ev"
 unfold lks
 rw [List.map_map]
 rfl
theorem zJh:(Str.ofString "half" == Str.ofString "row")=false:=by decide
theorem zJd:(Str.ofString "half" == Str.ofString "even")=false:=by decide
theorem zJa:(Str.ofString "half" == Str.ofString "part")=false:=by decide
theorem xA:(aQ.lookup (Str.ofString "half"))=some (Str.ofString "half"):=by decide
theorem zBf {n:Nat} {e:D} {cs:List Int} {cd:D} (sc:Sq cd cs) {q:Rat} {m:Nat} (hm:m<=2990) (hc:Cl cs) (hq:Sz m q) (h0:0<=q) (h1:q+q<=(cs.sum:Rat)):∃ t,Lvl (m+157) (ones cs) cs (q+q) t/\aG (n+1) [.str (Str.ofString "half"),e,cd,dq q]=.ok (.f ((hvs cs t).map dq)):=by
 have sm:=hc.sum
 have zW:Sz 105 (cs.sum:Rat):=cK (by omega) (by decide)
 obtain ⟨t,tl,ee⟩:=sE sc hm hc hq h0 h1
 refine ⟨t,tl,?_⟩
 show aP (aG n) _=_
 unfold aP
 walk_at "ev"
 rw [sc.sum]
 walk_at "ev"
 rw [cQ]
 walk_at "ev"
 rw [zJh]
 walk_at "ev"
 rw [zJd]
 walk_at "ev"
 rw [zJa]
 walk_at "ev"
 rw [zF hq hq (by omega)]
 walk_at "ev"
 rw [nK zW (zAO hq) (by omega),decide_eq_false (Rat.not_lt.mpr h1)]
 walk_at "ev"
 rw [ee]
 walk_at "ev"
def lhs (cs:List Int) (t:Rat):List Rat:=(List.range cs.length).map fun i=>cR cs i - jT (cR cs) (cR (ones cs)) t i * hf
theorem zDN {n:Nat} {e:D} {cs:List Int} {cd:D} (sc:Sq cd cs) {q:Rat} {m:Nat} (hm:m<=2880) (hc:Cl cs) (hq:Haul m q cs.sum) (h1:(cs.sum:Rat) < q+q):∃ t,Lvl (m+263) (ones cs) cs (((cs.sum:Rat) - q)+((cs.sum:Rat) - q)) t/\aG (n+2) [.str (Str.ofString "half"),e,cd,dq q]=.ok (.f ((lhs cs t).map dq)):=by
 have sm:=hc.sum
 have hi:=hc.hi
 have zW:Sz 105 (cs.sum:Rat):=cK (by omega) (by decide)
 have zT:Sz (m+106) ((cs.sum:Rat) - q):=(zW.sub hq.sz).mono (by omega)
 have u:=hq.up
 obtain ⟨t,tl,ee⟩:=zBf sc (n:=n) (e:=e) (m:=m+106) (by omega) hc zT (by grind) (by grind)
 refine ⟨t,tl,?_⟩
 show aP (aG (n+1)) _=_
 unfold aP
 walk_at "ev"
 rw [sc.sum]
 walk_at "ev"
 rw [cQ]
 walk_at "ev"
 rw [zJh]
 walk_at "ev"
 rw [zJd]
 walk_at "ev"
 rw [zJa]
 walk_at "ev"
 rw [zF hq.sz hq.sz (by omega)]
 walk_at "ev"
 rw [nK zW (zAO hq.sz) (by omega),decide_eq_true h1]
 walk_at "ev"
 rw [show pI aQ (.str (Str.ofString "half"))=.ok (.str (Str.ofString "half")) by show zGS (aQ.lookup (Str.ofString "half"))=_;rw [xA];rfl]
 walk_at "ev"
 rw [hJ zW hq.sz (by omega)]
 walk_at "ev"
 rw [ee]
 walk_at "ev"
 rw [rK sc.seqo rfl]
 walk_at "ev"
 rw [jK (u:=D.int) (v:=dq) (g:=fun c l=>dq ((c:Rat) - l)) (by omega) (fun p hp=>by
  have hp':=hp
  unfold hvs at hp'
  rw [iC cs _ 0] at hp'
  obtain ⟨i,hir,rfl⟩:=List.mem_map.mp hp'
  have hil:=List.mem_range.mp hir
  have c1:=hc.nn _ (List.mem_of_getElem? (dR hil))
  have c2:=hc.up _ (List.mem_of_getElem? (dR hil))
  walk_at "ev"
  rw [cQ]
  walk_at "ev"
  rw [hJ (m:=100) (n:=m+263+2) (cK (by omega) (by decide)) ((tl.sz i hil).mul zGD) (by omega)]
  walk_at "ev")]
 walk_at "ev"
 unfold hvs lhs
 rw [iC cs _ 0,List.map_map,List.map_map]
 rfl
theorem zJM:(Str.ofString "back" == Str.ofString "row")=false:=by decide
theorem zJR:(Str.ofString "back" == Str.ofString "even")=false:=by decide
theorem zJz:(Str.ofString "back" == Str.ofString "part")=false:=by decide
theorem zJs:(Str.ofString "back" == Str.ofString "half")=false:=by decide
theorem zJS:(Str.ofString "part" == Str.ofString "row")=false:=by decide
theorem zJQ:(Str.ofString "part" == Str.ofString "even")=false:=by decide
theorem zFo:(aQ.lookup (Str.ofString "row"))=some (Str.ofString "back"):=by decide
theorem wO:(aQ.lookup (Str.ofString "back"))=some (Str.ofString "row"):=by decide
theorem zCa:(aQ.lookup (Str.ofString "part"))=some (Str.ofString "part"):=by decide
theorem zGm {n:Nat} {d e:D} {cs:List Int} {q:Rat} (hd:d=.lst (cs.map D.int)∨d=.tup (cs.map D.int)) {m:Nat} (hm:m<=3000) (hc:Cl cs) (hq:Sz m q) (h0:0<=q):aG (n+1) [.str (Str.ofString "row"),e,d,dq q]=.ok (.f ((fT cs 0 q).map dq)):=by
 have su:rY [d]=.ok (.int cs.sum):=by rcases hd with rfl | rfl;exact bSum_l;exact bSum_t
 show aP (aG n) _=_
 unfold aP
 walk_at "ev"
 rw [su]
 walk_at "ev"
 rw [cQ]
 walk_at "ev"
 rw [vG hd hm hc hq h0]
 walk_at "ev"
theorem zGZ {n:Nat} {d e:D} {cs:List Int} {q:Rat} (hd:d=.lst (cs.map D.int)∨d=.tup (cs.map D.int)) {m:Nat} (hm:m<=3000) (hc:Cl cs) (hq:Sz m q):aG (n+1) [.str (Str.ofString "part"),e,d,dq q]=.ok (.f ((qT cs q).map dq)):=by
 have su:rY [d]=.ok (.int cs.sum):=by rcases hd with rfl | rfl;exact bSum_l;exact bSum_t
 show aP (aG n) _=_
 unfold aP
 walk_at "ev"
 rw [su]
 walk_at "ev"
 rw [cQ]
 walk_at "ev"
 rw [zJS]
 walk_at "ev"
 rw [zJQ]
 walk_at "ev"
 rw [tQ hd hm hc hq]
 walk_at "ev"
theorem zHL (f g:Nat->Rat):∀ n:Nat,((List.range n).map fun i=>f i - g i).sum=((List.range n).map f).sum - ((List.range n).map g).sum
 | 0=>by simp only [List.range_zero,List.map_nil,List.sum_nil];grind
 | n+1=>by
  rw [List.range_succ,List.map_append,List.map_append,List.map_append,List.sum_append,List.sum_append,List.sum_append,zHL f g n]
  simp only [List.map_cons,List.map_nil,List.sum_cons,List.sum_nil]
  grind
theorem mM (l:List Int):dep (.lst (l.map D.int))<=2:=by
 have:depS (l.map D.int)<=1:=by
  induction l with
  | nil=>exact Nat.zero_le _
  | cons a l ih=>rw [List.map_cons];show max 0 (depS (l.map D.int))<=1;omega
 show depS (l.map D.int)+1<=2
 omega
theorem yR {l:List Rat} {n:Nat} (h:l.length=n):l=(List.range n).map fun i=>l.getD i 0:=by
 refine List.ext_getElem? fun i=>?_
 rw [List.getElem?_map]
 by_cases hi:i < n
 ·rw [List.getElem?_range hi,List.getElem?_eq_getElem (by omega)]
  show _=some (l.getD i 0)
  rw [List.getD_eq_getElem?_getD,List.getElem?_eq_getElem (by omega)];rfl
 ·rw [List.getElem?_eq_none (by omega),List.getElem?_eq_none (by rw [List.length_range];omega)];rfl
def zHv (cs:List Int) (q:Rat) (i:Nat):Rat:=(fT cs 0 q).getD i 0
theorem zEL:∀ (cs:List Int) (a:Int) (q:Rat) (i:Nat),(∀ c∈cs,0<=c)->i < cs.length->0<=(fT cs a q).getD i 0/\(fT cs a q).getD i 0<=cR cs i
 | c::r,a,q,0,h,_=>by
  have c0:(0:Rat)<=(c:Rat):=by exact_mod_cast h c List.mem_cons_self
  show 0<=mn (ps0 (q - (a:Rat))) (c:Rat)/\mn (ps0 (q - (a:Rat))) (c:Rat)<=(c:Rat)
  unfold mn ps0
  grind
 | c::r,a,q,i+1,h,hi=>zEL r (a+c) q i (fun x hx=>h x (List.mem_cons_of_mem _ hx)) (by rw [List.length_cons] at hi;omega)
theorem zAN:∀ (cs:List Int) (a:Int) {q q':Rat} (i:Nat),q<=q'->(fT cs a q).getD i 0<=(fT cs a q').getD i 0
 | [],_,_,_,_,_=>Rat.le_refl
 | c::r,a,q,q',0,h=>by
  show mn (ps0 (q - (a:Rat))) (c:Rat)<=mn (ps0 (q' - (a:Rat))) (c:Rat)
  unfold mn ps0
  grind
 | c::r,a,q,q',i+1,h=>zAN r (a+c) i h
theorem vN:∀ (cs:List Int) (a:Int) (q:Rat),(∀ c∈cs,0<=c)->0<=cs.sum/\(fT cs a q).sum=mn (ps0 (q - (a:Rat))) (cs.sum:Rat)
 | [],a,q,_=>⟨Int.le_refl _,by show (0:Rat)=mn (ps0 _) ((0:Int):Rat);rw [show ((0:Int):Rat)=0 from rfl];unfold mn ps0;grind⟩
 | c::r,a,q,h=>by
  have c0:=h c List.mem_cons_self
  obtain ⟨s0,e⟩:=vN r (a+c) q fun x hx=>h x (List.mem_cons_of_mem _ hx)
  have c0':(0:Rat)<=(c:Rat):=by exact_mod_cast c0
  have s0':(0:Rat)<=(r.sum:Rat):=by exact_mod_cast s0
  rw [List.sum_cons]
  refine ⟨by omega,?_⟩
  rw [fT,List.sum_cons,e,Rat.intCast_add,Rat.intCast_add]
  unfold mn ps0
  grind
theorem yO {q:Rat} {m:Nat} (hq:Sz m q):∀ (cs:List Int) (a:Int),(∀ c∈cs,0<=c)->(∀ c∈cs,c < 10^30)->0<=a->a+cs.length * 10^30 < 2^110->∀ x∈fT cs a q,Sz (m+111) x
 | [],_,_,_,_,_,x,hx=>by cases hx
 | c::r,a,h1,h2,h3,h4,x,hx=>by
  have c0:=h1 c List.mem_cons_self
  have c1:=h2 c List.mem_cons_self
  rw [List.length_cons] at h4
  have e4:((r.length+1:Nat):Int) * 10^30=(r.length:Int) * 10^30+10^30:=by rw [Int.natCast_add,Int.add_mul];rfl
  have r0:0<=(r.length:Int) * 10^30:=Int.mul_nonneg (by omega) (by decide)
  rw [fT] at hx
  rcases List.mem_cons.mp hx with rfl | hx
  ·exact zEA (zGE (hq.sub (cK (n:=110) (by omega) (by decide))) (by omega)) (Sz.mono (m:=100) (cK (by omega) (by decide)) (by omega))
  ·exact yO hq r (a+c) (fun x hx=>h1 x (List.mem_cons_of_mem _ hx)) (fun x hx=>h2 x (List.mem_cons_of_mem _ hx)) (by omega) (by omega) x hx
theorem zH {cs:List Int} {q:Rat} {m:Nat} (hc:Cl cs) (hq:Sz m q) (h0:0<=q) (h1:q<=(cs.sum:Rat)):(fT cs 0 q=(List.range cs.length).map (zHv cs q))/\(fT cs 0 q).sum=q/\∀ x∈fT cs 0 q,Sz (m+111) x:=by
 have hi:=hc.hi
 refine ⟨yR (sL _ _ _),?_,yO hq cs 0 hc.nn hc.up (by decide) (by omega)⟩
 rw [(vN cs 0 q hc.nn).2,show ((0:Int):Rat)=0 from rfl]
 unfold mn ps0
 grind
theorem zHh {n:Nat} {e:D} {cs:List Int} {cd:D} (sc:Sq cd cs) {q:Rat} {m:Nat} (hm:m<=2890) (hc:Cl cs) (hq:Haul m q cs.sum):aG (n+2) [.str (Str.ofString "back"),e,cd,dq q]=.ok (.f (((List.range cs.length).map fun i=>cR cs i - zHv cs ((cs.sum:Rat) - q) i).map dq)):=by
 have sm:=hc.sum
 have hi:=hc.hi
 have zW:Sz 105 (cs.sum:Rat):=cK (by omega) (by decide)
 have zT:Sz (m+106) ((cs.sum:Rat) - q):=(zW.sub hq.sz).mono (by omega)
 have u:=hq.up
 have u':=hq.nn
 obtain ⟨r1,r2,r3⟩:=zH hc zT (by grind) (by grind)
 have ee:=zGm (n:=n) (e:=e) sc (m:=m+106) (by omega) hc zT (by grind)
 show aP (aG (n+1)) _=_
 unfold aP
 walk_at "ev"
 rw [sc.sum]
 walk_at "ev"
 rw [cQ]
 walk_at "ev"
 rw [zJM]
 walk_at "ev"
 rw [zJR]
 walk_at "ev"
 rw [zJz]
 walk_at "ev"
 rw [zJs]
 walk_at "ev"
 rw [show pI aQ (.str (Str.ofString "back"))=.ok (.str (Str.ofString "row")) by show zGS (aQ.lookup (Str.ofString "back"))=_;rw [wO];rfl]
 walk_at "ev"
 rw [hJ zW hq.sz (by omega)]
 walk_at "ev"
 rw [ee]
 walk_at "ev"
 rw [rK sc.seqo rfl]
 walk_at "ev"
 rw [jK (u:=D.int) (v:=dq) (g:=fun c l=>dq ((c:Rat) - l)) (by omega) (fun p hp=>by
  obtain ⟨p1,p2⟩:=List.of_mem_zip hp
  have c1:=hc.nn _ p1
  have c2:=hc.up _ p1
  walk_at "ev"
  rw [cQ]
  walk_at "ev"
  rw [hJ (m:=100) (n:=m+106+111) (cK (by omega) (by decide)) (r3 _ p2) (by omega)]
  walk_at "ev")]
 walk_at "ev"
 rw [r1,iC cs _ 0,List.map_map,List.map_map]
 rfl
def zD (cs:List Int) (q:Rat) (i:Nat):Rat:=(qT cs q).getD i 0
theorem zHT {cs:List Int} {q:Rat} {i:Nat} (hi:i < cs.length):zD cs q i=Rat.divInt (cs.getD i 0 * q.num) (max 1 cs.sum * q.den):=by
 unfold zD qT
 rw [List.getD_eq_getElem?_getD,List.getElem?_map,dR hi]
 rfl
inductive Wy where
 | row | back | even | lack | part | half
def Wy.s:Wy->Str
 | .row=>Str.ofString "row"
 | .back=>Str.ofString "back"
 | .even=>Str.ofString "even"
 | .lack=>Str.ofString "lack"
 | .part=>Str.ofString "part"
 | .half=>Str.ofString "half"
def Wy.due (w:Wy) (ws cs:List Int):Prop:=match w with
 | .even=>Wt ws cs
 | .lack=>Wt ws cs
 | _=>ws=[]
def Al (M:Nat) (ws cs:List Int) (q:Rat) (f:Nat->Rat):Wy->Prop
 | .row=>∀ i,i < cs.length->f i=zHv cs q i
 | .back=>∀ i,i < cs.length->f i=cR cs i - zHv cs ((cs.sum:Rat) - q) i
 | .even=>∃ t,Lvl M ws cs q t/\∀ i,i < cs.length->f i=jT (cR cs) (cR ws) t i
 | .lack=>∃ t,Lvl M ws cs ((cs.sum:Rat) - q) t/\∀ i,i < cs.length->f i=cR cs i - jT (cR cs) (cR ws) t i
 | .part=>∀ i,i < cs.length->f i=zD cs q i
 | .half=>∃ t,(q+q<=(cs.sum:Rat)/\Lvl M (ones cs) cs (q+q) t/\∀ i,i < cs.length->f i=jT (cR cs) (cR (ones cs)) t i * hf)∨((cs.sum:Rat) < q+q/\Lvl M (ones cs) cs (((cs.sum:Rat) - q)+((cs.sum:Rat) - q)) t/\∀ i,i < cs.length->f i=cR cs i - jT (cR cs) (cR (ones cs)) t i * hf)
theorem zBy {w:Wy} {ws cs:List Int} {wd cd:D} (sw:Sq wd ws) (sc:Sq cd cs) {q:Rat} {m:Nat} (hm:m<=2880) (hw:w.due ws cs) (hc:Cl cs) (hq:Haul m q cs.sum):∃ f,aG 2 [.str w.s,wd,cd,dq q]=.ok (.f (((List.range cs.length).map f).map dq))/\Al (m+263) ws cs q f w:=by
 have z:=hq.sz
 cases w with
 | row=>exact ⟨zHv cs q,by rw [<-(zH hc z hq.nn hq.up).1];exact zGm sc (by omega) hc z hq.nn,fun i _=>rfl⟩
 | back=>exact ⟨_,zHh sc (by omega) hc hq,fun i _=>rfl⟩
 | even=>
  obtain ⟨t,tl,e⟩:=zDz sw sc (n:=1) (by omega) hw hc z hq.nn hq.up
  exact ⟨_,e,t,tl.mono (by omega),fun i _=>rfl⟩
 | lack=>
  obtain ⟨t,tl,e⟩:=zHN sw sc (n:=0) (by omega) hw hc hq
  rw [zGI] at e
  exact ⟨_,e,t,tl.mono (by omega),fun i _=>rfl⟩
 | part=>
  refine ⟨zD cs q,?_,fun i _=>rfl⟩
  have e:qT cs q=(List.range cs.length).map (zD cs q):=yR (by unfold qT;rw [List.length_map])
  rw [<-e]
  exact zGZ sc (by omega) hc z
 | half=>
  by_cases h:(cs.sum:Rat) < q+q
  ·obtain ⟨t,tl,e⟩:=zDN sc (n:=0) (e:=wd) (by omega) hc hq h
   exact ⟨_,e,t,.inr ⟨h,tl,fun i _=>rfl⟩⟩
  ·obtain ⟨t,tl,e⟩:=zBf sc (n:=1) (e:=wd) (by omega) hc z hq.nn (Rat.not_lt.mp h)
   exact ⟨_,e,t,.inl ⟨Rat.not_lt.mp h,tl.mono (by omega),fun i _=>rfl⟩⟩
theorem zAU (w:Wy):∃ v,aQ.lookup w.s=some v:=by
 cases w
 ·exact ⟨_,zFo⟩
 ·exact ⟨_,wO⟩
 ·exact ⟨_,zCe⟩
 ·exact ⟨_,wK⟩
 ·exact ⟨_,zCa⟩
 ·exact ⟨_,xA⟩
theorem qY {w:Wy} {ws cs:List Int} {wd cd:D} (sw:Sq wd ws) (sc:Sq cd cs) (hw:w.due ws cs) (hc:Cl cs):bX [.str w.s,wd,cd]=.ok (.v .non):=by
 have rw':aZ [.str w.s,wd,.int cs.length]=.ok (.v .non):=by
  cases w with
  | even=>exact kO sw hw rfl
  | lack=>exact kO sw hw rfl
  | row=>have e:ws=[]:=hw;rw [e] at sw;exact fA sw rfl
  | back=>have e:ws=[]:=hw;rw [e] at sw;exact fA sw rfl
  | part=>have e:ws=[]:=hw;rw [e] at sw;exact fA sw rfl
  | half=>have e:ws=[]:=hw;rw [e] at sw;exact fA sw rfl
 obtain ⟨v,hv⟩:=zAU w
 unfold bX
 walk_at "ev"
 rw [iT hv]
 walk_at "ev"
 rw [gQ sc hc]
 walk_at "ev"
 rw [sc.len]
 walk_at "ev"
 rw [rw']
 walk_at "ev"
theorem zFj {w:Wy} {ws cs:List Int} {wd cd:D} (sw:Sq wd ws) (sc:Sq cd cs) {q:Rat} {m:Nat} (hm:m<=2880) (hw:w.due ws cs) (hc:Cl cs) (hq:Haul m q cs.sum):∃ f,eD [.str w.s,wd,cd,dq q]=.ok (.f (((List.range cs.length).map f).map dq))/\Al (m+263) ws cs q f w:=by
 obtain ⟨f,rd,al⟩:=zBy sw sc hm hw hc hq
 have sm:=hc.sum
 refine ⟨f,?_,al⟩
 unfold eD
 walk_at "ev"
 rw [qY sw sc hw hc]
 walk_at "ev"
 rw [sc.sum]
 walk_at "ev"
 rw [cQ]
 walk_at "ev"
 rw [lX (by omega) hq (by omega)]
 walk_at "ev"
 rw [rd]
 walk_at "ev"
theorem pQ (cd:D):∀ (cs:List Int) (a:Sl),(∃ c∈cs,c < 0)->dX (gName 1) fP (cs.map D.int) [.val cd,a]=.err "BadClaim"
 | [],_,h=>by obtain ⟨c,hc,_⟩:=h;cases hc
 | c::r,a,h=>by
  rw [List.map_cons]
  by_cases z:c < 0
  ·rw [dX]
   walk_at "ev"
   rw [decide_eq_true z]
   walk_at "ev"
  ·rw [fU (ρ1:=[.val cd,.val (.int c)]) (ρ2:=[.val cd,.val (.int c)]) rfl (by
    walk_at "ev"
    rw [decide_eq_false z]
    walk_at "ev")]
   refine pQ cd r _ ?_
   obtain ⟨x,hx,h1⟩:=h
   rcases List.mem_cons.mp hx with rfl | hx
   ·exact absurd h1 z
   ·exact ⟨x,hx,h1⟩
theorem lH {cs:List Int} {cd:D} (sc:Sq cd cs) (h:cs=[]∨∃ c∈cs,c < 0):bS [cd]=.err "BadClaim" := by
 unfold bS
 walk_at "ev"
 rw [sc.len]
 walk_at "ev"
 by_cases z:cs=[]
 ·subst z
  rw [decide_eq_true (show ((([]:List Int).length:Nat):Int)=0 from rfl)]
  walk_at "ev"
 ·have l0:0 < cs.length:=List.length_pos_iff.mpr z
  rw [decide_eq_false (by omega)]
  walk_at "ev"
  rw [sc.seq]
  walk_at "ev"
  rw [pQ cd cs _ (h.resolve_left z)]
  walk_at "ev"
theorem oC (a0 a1 a2 a3:Sl):∀ (cs:List Int) (a:Sl),(∃ c∈cs,c < 1∨10^6 < c)->dX (gName 4) fB (cs.map D.int) [a0,a1,a2,a3,a]=.err "BadWeights"
 | [],_,h=>by obtain ⟨c,hc,_⟩:=h;cases hc
 | c::r,a,h=>by
  rw [List.map_cons]
  by_cases z:c < 1∨10^6 < c
  ·rw [dX]
   walk_at "ev"
   by_cases z1:c < 1
   ·rw [decide_eq_true z1]
    walk_at "ev"
   ·rw [decide_eq_false z1]
    walk_at "ev"
    rw [oPow_i zEs]
    walk_at "ev"
    rw [decide_eq_true (by omega)]
    walk_at "ev"
  ·rw [fU (ρ1:=[a0,a1,a2,a3,.val (.int c)]) (ρ2:=[a0,a1,a2,a3,.val (.int c)]) rfl (by
    walk_at "ev"
    rw [decide_eq_false (by omega)]
    walk_at "ev"
    rw [oPow_i zEs]
    walk_at "ev"
    rw [decide_eq_false (by omega)]
    walk_at "ev")]
   refine oC a0 a1 a2 a3 r _ ?_
   obtain ⟨x,hx,h1⟩:=h
   rcases List.mem_cons.mp hx with rfl | hx
   ·exact absurd h1 z
   ·exact ⟨x,hx,h1⟩
theorem jS {w:Str} {ws:List Int} {wd:D} {n:Nat} {b:Bool} (sw:Sq wd ws) (hw:oIn (.str w) d_WEIGHTED=.ok (.bl b)) (h:¬ (ws.length=(if b=true then n else 0)/\∀ w∈ws,1<=w/\w<=10^6)):aZ [.str w,wd,.int (n:Int)]=.err "BadWeights" := by
 unfold d_WEIGHTED at hw
 unfold aZ
 walk_at "ev"
 rw [hw]
 cases b with
 | true=>
  walk_at "ev"
  rw [sw.len]
  walk_at "ev"
  by_cases z:ws.length=n
  ·rw [decide_eq_true (by omega)]
   walk_at "ev"
   rw [sw.seq]
   walk_at "ev"
   rw [oC _ _ _ _ ws _ (by
    refine Classical.byContradiction fun k=>h ⟨by rw [if_pos rfl];exact z,fun w hw=>?_⟩
    exact Classical.byContradiction fun k2=>k ⟨w,hw,by omega⟩)]
   walk_at "ev"
  ·rw [decide_eq_false (by omega)]
   walk_at "ev"
 | false=>
  walk_at "ev"
  rw [sw.len]
  walk_at "ev"
  by_cases z:ws.length=0
  ·exfalso
   refine h ⟨by rw [if_neg (by decide)];exact z,fun w hw=>?_⟩
   rw [List.length_eq_zero_iff.mp z] at hw
   cases hw
  ·rw [decide_eq_false (by omega)]
   walk_at "ev"
theorem qO {q W:Rat} {m:Nat} (hm:m<=3000) (hq:Sz m q) (hW:Sz m W) (h:q < 0∨W < q):bJ [dq q,dq W]=.err "Outside" := by
 have z0:Sz 1 (0:Rat):=⟨by decide,by decide⟩
 have io:cW [dq q,dq W]=.ok (.v (.bl true)):=by
  unfold cW
  walk_at "ev"
  rw [nK hq z0 (by omega)]
  by_cases n1:q < 0
  ·rw [decide_eq_true n1]
   walk_at "ev"
  ·rw [decide_eq_false n1]
   walk_at "ev"
   rw [nK hW hq (by omega),decide_eq_true (h.resolve_left n1)]
   walk_at "ev"
 unfold bJ
 walk_at "ev"
 rw [io]
 walk_at "ev"
theorem rN:∀ l:List Int,fQ (l.map D.int)=some l
 | []=>rfl
 | a::r=>by rw [List.map_cons,fQ,rN r]
theorem uM (a:Int) (r:List Int):xQ [.lst (D.int a::r.map D.int)]=.ok (.int (pO a r)):=by
 show (match fQ ((a::r).map D.int) with | some (a::r)=>Res.ok (D.int (pO a r)) | _=>.no)=_
 rw [rN]
theorem zDZ (a:Int) (r:List Int):zBw [.lst (D.int a::r.map D.int)]=.ok (.int (rP a r)):=by
 show (match fQ ((a::r).map D.int) with | some (a::r)=>Res.ok (D.int (rP a r)) | _=>.no)=_
 rw [rN]
theorem nS {k:Int}:∀ (a:Int) (r:List Int),pO a r < k ↔ ∃ c∈a::r,c < k
 | a,[]=>by
  rw [pO]
  exact ⟨fun h=>⟨a,List.mem_cons_self,h⟩,fun ⟨c,hc,h⟩=>by rw [List.mem_singleton.mp hc] at h;exact h⟩
 | a,b::r=>by
  rw [pO,nS]
  constructor
  ·rintro ⟨c,hc,h⟩
   rcases List.mem_cons.mp hc with e | hc
   ·by_cases z:b < a
    ·rw [if_pos z] at e;exact ⟨c,by rw [e];simp,h⟩
    ·rw [if_neg z] at e;exact ⟨c,by rw [e];simp,h⟩
   ·exact ⟨c,by simp [hc],h⟩
  ·rintro ⟨c,hc,h⟩
   rcases List.mem_cons.mp hc with e | hc
   ·refine ⟨_,List.mem_cons_self,?_⟩
    split<;>omega
   ·rcases List.mem_cons.mp hc with e | hc
    ·refine ⟨_,List.mem_cons_self,?_⟩
     split<;>omega
    ·exact ⟨c,List.mem_cons_of_mem _ hc,h⟩
theorem uQ {k:Int}:∀ (a:Int) (r:List Int),k < rP a r ↔ ∃ c∈a::r,k < c
 | a,[]=>by
  rw [rP]
  exact ⟨fun h=>⟨a,List.mem_cons_self,h⟩,fun ⟨c,hc,h⟩=>by rw [List.mem_singleton.mp hc] at h;exact h⟩
 | a,b::r=>by
  rw [rP,uQ]
  constructor
  ·rintro ⟨c,hc,h⟩
   rcases List.mem_cons.mp hc with e | hc
   ·by_cases z:b > a
    ·rw [if_pos z] at e;exact ⟨c,by rw [e];simp,h⟩
    ·rw [if_neg z] at e;exact ⟨c,by rw [e];simp,h⟩
   ·exact ⟨c,by simp [hc],h⟩
  ·rintro ⟨c,hc,h⟩
   rcases List.mem_cons.mp hc with e | hc
   ·refine ⟨_,List.mem_cons_self,?_⟩
    split<;>omega
   ·rcases List.mem_cons.mp hc with e | hc
    ·refine ⟨_,List.mem_cons_self,?_⟩
     split<;>omega
    ·exact ⟨c,List.mem_cons_of_mem _ hc,h⟩
def isW:Wy->Bool
 | .even=>true
 | .lack=>true
 | _=>false
def wyl:List D:=[.str "row", .str "back", .str "even", .str "lack", .str "part", .str "half"]
theorem zDp (s:Str):(∃ w:Wy,s=w.s)∨((∀ w:Wy,s≠w.s)/\aQ.lookup s=none/\iQ (.str s) (.lst wyl)=.ok (.bl true)):=by
 by_cases h:∃ w:Wy,s=w.s
 ·exact .inl h
 ·have n:∀ w:Wy,s≠w.s:=fun w e=>h ⟨w,e⟩
  have n1:s ≠ "row" := n .row
  have n2:s ≠ "back" := n .back
  have n3:s ≠ "even" := n .even
  have n4:s ≠ "lack" := n .lack
  have n5:s ≠ "part" := n .part
  have n6:s ≠ "half" := n .half
  refine .inr ⟨n,?_,?_⟩
  ·unfold aQ
   simp only [List.lookup,beq_eq_false_iff_ne.mpr n1,beq_eq_false_iff_ne.mpr n2,beq_eq_false_iff_ne.mpr n3,beq_eq_false_iff_ne.mpr n4,beq_eq_false_iff_ne.mpr n5,beq_eq_false_iff_ne.mpr n6]
  ·have f:∀ {x:Str},s≠x->(x==s)=false:=fun h=>beq_eq_false_iff_ne.mpr (Ne.symm h)
   show (if depS wyl<=50 then Res.ok (D.bl (!(wyl.any fun e=>eqD e (.str s)))) else .no)=_
   rw [if_pos (by decide)]
   simp only [wyl,List.any_cons,List.any_nil,eqD,f n1,f n2,f n3,f n4,f n5,f n6]
   rfl
theorem zAT (w:Wy):iQ (.str w.s) (.lst wyl)=.ok (.bl false):=by cases w<;>first | rfl | with_unfolding_all rfl
theorem zHJ (w:Wy):oIn (.str w.s) d_WEIGHTED=.ok (.bl (isW w)):=by cases w<;>first | rfl | with_unfolding_all rfl
theorem zR {s:Str} (h:aQ.lookup s=none):bV [.str s]=.err "BadWay" := by
 unfold bV
 walk_at "ev"
 rw [h]
 rfl
theorem wM {w:Wy} {ws cs:List Int} (h:ws.length=(if isW w=true then cs.length else 0)/\∀ w∈ws,1<=w/\w<=10^6):w.due ws cs:=by
 cases w
 case even=>exact ⟨h.1,fun w hw=>(h.2 w hw).1,fun w hw=>(h.2 w hw).2⟩
 case lack=>exact ⟨h.1,fun w hw=>(h.2 w hw).1,fun w hw=>(h.2 w hw).2⟩
 all_goals exact List.length_eq_zero_iff.mp h.1
theorem kF (s:Str) {ws cs:List Int} {wd cd:D} (sw:Sq wd ws) (sc:Sq cd cs) (hu:∀ c∈cs,c < 10^30) (hl:cs.length<=12):
  ((∀ w:Wy,s≠w.s)/\bX [.str s,wd,cd]=.err "BadWay")∨∃ w:Wy,s=w.s/\
   ((cs=[]∨∃ c∈cs,c < 0)/\bX [.str s,wd,cd]=.err "BadClaim" ∨ Cl cs/\
    (¬ (ws.length=(if isW w=true then cs.length else 0)/\∀ w∈ws,1<=w/\w<=10^6)/\bX [.str s,wd,cd]=.err "BadWeights" ∨ w.due ws cs/\bX [.str s,wd,cd]=.ok (.v .non))):=by
 rcases zDp s with ⟨w,rfl⟩ | ⟨n,hn,_⟩
 ·refine .inr ⟨w,rfl,?_⟩
  obtain ⟨v,hv⟩:=zAU w
  by_cases hc:cs=[]∨∃ c∈cs,c < 0
  ·refine .inl ⟨hc,?_⟩
   unfold bX
   walk_at "ev"
   rw [iT hv]
   walk_at "ev"
   rw [lH sc hc]
   walk_at "ev"
  ·have hcl:Cl cs:=⟨fun c h=>Classical.byContradiction fun k=>hc (.inr ⟨c,h,by omega⟩),hu,List.length_pos_iff.mpr fun e=>hc (.inl e),hl⟩
   refine .inr ⟨hcl,?_⟩
   by_cases hw:ws.length=(if isW w=true then cs.length else 0)/\∀ w∈ws,1<=w/\w<=10^6
   ·exact .inr ⟨wM hw,qY sw sc (wM hw) hcl⟩
   ·refine .inl ⟨hw,?_⟩
    unfold bX
    walk_at "ev"
    rw [iT hv]
    walk_at "ev"
    rw [gQ sc hcl]
    walk_at "ev"
    rw [sc.len]
    walk_at "ev"
    rw [jS sw (zHJ w) hw]
    walk_at "ev"
 ·refine .inl ⟨n,?_⟩
  unfold bX
  walk_at "ev"
  rw [zR hn]
  walk_at "ev"
theorem zBj (l:List Int):oEq (.lst (l.map D.int)) (.lst [])=.ok (.bl (decide (l=[]))):=by
 unfold oEq
 rw [if_pos (Nat.le_trans (mM l) (by decide))]
 cases l<;>rfl
theorem zDP (l:List Int):oNe (.lst (l.map D.int)) (.lst [])=.ok (.bl (!decide (l=[]))):=by
 unfold oNe
 rw [if_pos (Nat.le_trans (mM l) (by decide))]
 cases l<;>rfl
theorem zIq {s:Str} {a b:D} (h:iQ (.str s) (.lst wyl)=.ok (.bl true)):cJ [.str s,a,b]=.ok (.v (.int 0)):=by
 unfold wyl at h
 unfold cJ
 walk_at "ev"
 rw [h]
 walk_at "ev"
theorem zIv {w:Wy} {a:D} {cs:List Int} (h:cs=[]∨∃ c∈cs,c < 0):cJ [.str w.s,a,.lst (cs.map D.int)]=.ok (.v (.int 1)):=by
 have hn:=zAT w
 unfold wyl at hn
 unfold cJ
 walk_at "ev"
 rw [hn]
 walk_at "ev"
 rw [zBj]
 cases cs with
 | nil=>
  rw [decide_eq_true rfl]
  walk_at "ev"
 | cons c r=>
  have h':pO c r < 0:=(nS c r).mpr (h.resolve_left (by simp))
  rw [decide_eq_false (by simp)]
  walk_at "ev"
  rw [uM]
  walk_at "ev"
  rw [decide_eq_true h']
  walk_at "ev"
def isE:Wy->Bool
 | .even=>true
 | _=>false
def isL:Wy->Bool
 | .lack=>true
 | _=>false
theorem zAZ (w:Wy):(w.s==Str.ofString "even")=isE w:=by cases w<;>first | rfl | with_unfolding_all rfl
theorem yJ (w:Wy):(w.s==Str.ofString "lack")=isL w:=by cases w<;>first | rfl | with_unfolding_all rfl
theorem zGa {w:Wy} {a:D} {cs:List Int} (hc:Cl cs):cJ [.str w.s,a,.lst (cs.map D.int)]=(bZ [.val (.str w.s),.val a,.val (.lst (cs.map D.int))]).bind fin:=by
 have hn:=zAT w
 unfold wyl at hn
 unfold cJ oG
 generalize hK:(bZ:Sv)=K
 walk_at "ev"
 rw [hn]
 walk_at "ev"
 rw [zBj]
 have lo:=hc.lo
 have nn:=hc.nn
 cases cs with
 | nil=>exact absurd lo (by decide)
 | cons c r=>
  have h':¬ pO c r < 0:=fun k=>by
   obtain ⟨x,hx,h⟩:=(nS c r).mp k
   have:=nn x hx
   omega
  rw [decide_eq_false (by simp)]
  walk_at "ev"
  rw [uM]
  walk_at "ev"
  rw [decide_eq_false h']
  walk_at "ev"
theorem yN {w:Wy} {ws cs:List Int} (hc:Cl cs):
  (w.due ws cs->cJ [.str w.s,.lst (ws.map D.int),.lst (cs.map D.int)]=.ok (.v (.int 4)))/\
  (¬ (ws.length=(if isW w=true then cs.length else 0)/\∀ w∈ws,1<=w/\w<=10^6)->cJ [.str w.s,.lst (ws.map D.int),.lst (cs.map D.int)]=.ok (.v (.int 2))):=by
 rw [zGa hc]
 have lo:=hc.lo
 have wtd:∀ v:Wy,v=.even∨v=.lack->(Wt ws cs->(bZ [.val (.str v.s),.val (.lst (ws.map D.int)),.val (.lst (cs.map D.int))]).bind fin=.ok (.v (.int 4)))/\(¬ (ws.length=cs.length/\∀ w∈ws,1<=w/\w<=10^6)->(bZ [.val (.str v.s),.val (.lst (ws.map D.int)),.val (.lst (cs.map D.int))]).bind fin=.ok (.v (.int 2))):=by
  intro v hv
  have e:(bZ [.val (.str v.s),.val (.lst (ws.map D.int)),.val (.lst (cs.map D.int))])=jE [.val (.str v.s),.val (.lst (ws.map D.int)),.val (.lst (cs.map D.int))]:=by
   unfold bZ
   generalize hK:(jE:Sv)=K
   walk_at "ev"
   rw [zAZ]
   rcases hv with rfl | rfl
   ·rw [show isE Wy.even=true from rfl]
    walk_at "ev"
   ·rw [show isE Wy.lack=false from rfl]
    walk_at "ev"
    rw [yJ,show isL Wy.lack=true from rfl]
    walk_at "ev"
  rw [e]
  walk_at "ev"
  cases ws with
  | nil=>
   rw [decide_eq_false (by show ¬ ((([]:List Int).length:Int)=_);have:([]:List Int).length=0:=rfl;omega)]
   walk_at "ev"
   refine ⟨fun h=>?_,fun _=>trivial⟩
   have:=h.len
   rw [<-this] at lo
   exact absurd lo (by decide)
  | cons a r=>
   by_cases z:(a::r).length=cs.length
   ·rw [decide_eq_true (show ((a::r).length:Int)=cs.length by omega)]
    walk_at "ev"
    rw [uM]
    walk_at "ev"
    by_cases z1:pO a r < 1
    ·rw [decide_eq_true z1]
     walk_at "ev"
     refine ⟨fun h=>?_,fun _=>trivial⟩
     obtain ⟨x,hx,k⟩:=(nS a r).mp z1
     have:=h.lo x hx
     omega
    ·rw [decide_eq_false z1]
     walk_at "ev"
     rw [zDZ]
     walk_at "ev"
     rw [oPow_i zEs]
     walk_at "ev"
     by_cases z2:(10:Int)^6 < rP a r
     ·rw [decide_eq_true z2]
      walk_at "ev"
      refine ⟨fun h=>?_,fun _=>trivial⟩
      obtain ⟨x,hx,k⟩:=(uQ a r).mp z2
      have:=h.up x hx
      omega
     ·rw [decide_eq_false z2]
      walk_at "ev"
      refine ⟨fun _=>trivial,fun h=>absurd ⟨z,fun x hx=>⟨?_,?_⟩⟩ h⟩
      ·exact Classical.byContradiction fun k=>z1 ((nS a r).mpr ⟨x,hx,by omega⟩)
      ·exact Classical.byContradiction fun k=>z2 ((uQ a r).mpr ⟨x,hx,by omega⟩)
   ·rw [decide_eq_false (show ¬ ((a::r).length:Int)=cs.length by omega)]
    walk_at "ev"
    exact ⟨fun h=>absurd h.len z,fun _=>trivial⟩
 have oth:∀ v:Wy,v≠.even->v≠.lack->(bZ [.val (.str v.s),.val (.lst (ws.map D.int)),.val (.lst (cs.map D.int))]).bind fin=.ok (.v (.int (if ws=[] then 4 else 2))):=by
  intro v h1 h2
  walk_at "ev"
  rw [zAZ]
  have e1:isE v=false:=by cases v<;>first | rfl | exact absurd rfl h1
  have e2:isL v=false:=by cases v<;>first | rfl | exact absurd rfl h2
  rw [e1]
  walk_at "ev"
  rw [yJ,e2]
  walk_at "ev"
  rw [zBj]
  by_cases z:ws=[]
  ·rw [decide_eq_true z,if_pos z]
   rfl
  ·rw [decide_eq_false z,if_neg z]
   rfl
 have oth':∀ v:Wy,v≠.even->v≠.lack->(ws=[]->(bZ [.val (.str v.s),.val (.lst (ws.map D.int)),.val (.lst (cs.map D.int))]).bind fin=.ok (.v (.int 4)))/\(¬ (ws.length=0/\∀ w∈ws,1<=w/\w<=10^6)->(bZ [.val (.str v.s),.val (.lst (ws.map D.int)),.val (.lst (cs.map D.int))]).bind fin=.ok (.v (.int 2))):=by
  intro v h1 h2
  rw [oth v h1 h2]
  refine ⟨fun h=>by rw [if_pos h],fun h=>?_⟩
  rw [if_neg fun z=>h ⟨by rw [z];rfl,fun x hx=>by rw [z] at hx;cases hx⟩]
 cases w
 ·exact oth' .row (by intro h;cases h) (by intro h;cases h)
 ·exact oth' .back (by intro h;cases h) (by intro h;cases h)
 ·exact wtd .even (.inl rfl)
 ·exact wtd .lack (.inr rfl)
 ·exact oth' .part (by intro h;cases h) (by intro h;cases h)
 ·exact oth' .half (by intro h;cases h) (by intro h;cases h)
theorem zIz (c:Int):∃ s:Str,gP [.int c]=.ok (.v (.str s)):=by
 unfold gP
 walk_at "ev"
 by_cases z:c % 5=4
 ·rw [decide_eq_true z]
  walk_at "ev"
  rcases (show c / 5 % 8=0∨c / 5 % 8=1∨c / 5 % 8=2∨c / 5 % 8=3∨c / 5 % 8=4∨c / 5 % 8=5∨c / 5 % 8=6∨c / 5 % 8=7 by omega) with h | h | h | h | h | h | h | h<;>(rw [h];exact ⟨_,rfl⟩)
 ·rw [decide_eq_false z]
  walk_at "ev"
  rcases (show c / 5 % 6=0∨c / 5 % 6=1∨c / 5 % 6=2∨c / 5 % 6=3∨c / 5 % 6=4∨c / 5 % 6=5 by omega) with h | h | h | h | h | h<;>(rw [h];exact ⟨_,rfl⟩)
theorem pS {a b:D} (k:Int):ofO (atD [a,b] (k % 2))=.ok (if k % 2=0 then a else b):=by
 rcases (show k % 2=0∨k % 2=1 by omega) with h | h<;>rw [h]<;>rfl
theorem rC {x a b:Int} (k:Int) (ha:0 < a) (hb:a<=b):∃ y,fS (.int x) (if k % 2=0 then .int a else .int b)=.ok (.int y)/\0<=y/\y < b:=by
 by_cases h:k % 2=0
 ·rw [if_pos h,oMod_i (by omega),fmod_pos _ ha]
  have t0:=Int.emod_nonneg x (show a≠0 by omega)
  have t1:=Int.emod_lt_of_pos x ha
  exact ⟨_,rfl,t0,by omega⟩
 ·rw [if_neg h,oMod_i (by omega),fmod_pos _ (by omega)]
  have t0:=Int.emod_nonneg x (show b≠0 by omega)
  have t1:=Int.emod_lt_of_pos x (show 0 < b by omega)
  exact ⟨_,rfl,t0,t1⟩
theorem zCt (ns:List Int) (c:Int):∃ cs:List Int,dZ [.lst (ns.map D.int),.int c]=.ok (.f (cs.map D.int))/\cs.length<=8/\∀ x∈cs,-(10^60) < x/\x < 10^30:=by
 have n0:0<=c % 8:=Int.emod_nonneg _ (by decide)
 have n1:c % 8 < 8:=Int.emod_lt_of_pos _ (by decide)
 unfold dZ
 walk_at "ev"
 generalize hn:1+c % 8=n
 rw [zB (by omega) (by omega)]
 walk_at "ev"
 refine zAk (Q:=fun r=>∃ cs:List Int,r.bind fin=.ok (.f (cs.map D.int))/\cs.length<=8/\∀ x∈cs,-(10^60) < x/\x < 10^30) (k:=wH fL) (fun i ρ=>∃ (cs:List Int) (a b:Sl),ρ=[.val (.lst (ns.map D.int)),.val (.int c),.val (.int n),.own (cs.map D.int),a,b]/\cs.length=i/\∀ c∈cs,0<=c/\c < 10^30) ⟨[],_,_,rfl,rfl,fun c h=>by cases h⟩ ?_ ?_
 ·rintro i d ρ hd ⟨cs,a,b,rfl,hl,hc⟩
  obtain ⟨hi,rfl⟩:=zDi hd
  rw [show (0:Int)+(i:Int) * 1=(i:Int) by omega]
  generalize hk:ns.getD (5+(i:Int)).toNat 0 % 10^40=k
  obtain ⟨y,ey,y0,y1⟩:=rC (x:=k / 2) (a:=13) (b:=10^30) k (by decide) (by decide)
  refine ⟨[.val (.lst (ns.map D.int)),.val (.int c),.val (.int n),.own ((cs++[y]).map D.int),.val (.int (i:Int)),.val (.int k)],?_,cs++[y],_,_,rfl,by rw [List.length_append,hl];rfl,fun x hx=>?_⟩
  ·walk_at "ev"
   rw [dA ns _ (by omega)]
   walk_at "ev"
   rw [hk,vD,pS]
   walk_at "ev"
   rw [ey]
   walk_at "ev"
   rw [if_pos (by omega),List.map_append]
   rfl
  ·rcases List.mem_append.mp hx with h | h
   ·exact hc x h
   ·rw [List.mem_singleton.mp h];exact ⟨y0,y1⟩
 ·rintro ρ ⟨cs,a,b,rfl,hl,hc⟩
  rw [zDh] at hl
  have tail:∀ cs:List Int,cs.length<=8->(∀ x∈cs,-(10^60) < x/\x < 10^30)->∃ cs':List Int,(fG [.val (.lst (ns.map D.int)),.val (.int c),.val (.int n),.own (cs.map D.int),a,b]).bind fin=.ok (.f (cs'.map D.int))/\cs'.length<=8/\∀ x∈cs',-(10^60) < x/\x < 10^30:=by
   intro cs h1 h2
   walk_at "ev"
   by_cases z:c / 8 % 32=2
   ·rw [decide_eq_true z]
    walk_at "ev"
    exact ⟨[],rfl,by decide,fun x hx=>by cases hx⟩
   ·rw [decide_eq_false z]
    walk_at "ev"
    exact ⟨cs,rfl,h1,h2⟩
  have hc':∀ x∈cs,-(10^60) < x/\x < 10^30:=fun x hx=>by have:=hc x hx;omega
  unfold fL
  generalize hK:(fG:Sv)=K at tail ⊢
  walk_at "ev"
  by_cases z:c / 8 % 4=1
  ·obtain ⟨y,ey,y0,y1⟩:=rC (x:=c / 256) (a:=2) (b:=10^59) (c / 256) (by decide) (by decide)
   have p0:=Int.emod_nonneg (c / 32) (show n≠0 by omega)
   have p1:=Int.emod_lt_of_pos (c / 32) (show 0 < n by omega)
   obtain ⟨j,hj⟩:∃ j:Nat,c / 32 % n=(j:Int):=⟨_,(Int.toNat_of_nonneg p0).symm⟩
   rw [decide_eq_true z]
   walk_at "ev"
   rw [zDG (ds:=cs.map D.int) (d:=.int (-1 - y)) (j:=j) (by
    walk_at "ev"
    rw [vD,pS]
    walk_at "ev"
    rw [ey]
    walk_at "ev") rfl (by
    walk_at "ev"
    rw [oMod_i (by omega),fmod_pos _ (by omega),hj]) (by rw [List.length_map];omega)]
   walk_at "ev"
   rw [<-List.map_set]
   refine tail (cs.set j (-1 - y)) (by rw [List.length_set];omega) fun x hx=>?_
   rcases List.mem_or_eq_of_mem_set hx with h | h
   ·exact hc' x h
   ·rw [h];omega
  ·rw [decide_eq_false z]
   walk_at "ev"
   exact tail cs (by omega) hc'
theorem zES {a b:D} (k:Int):∃ d,ofO (atD [a,b] (k % 2))=.ok d/\(d=a∨d=b):=by
 rw [pS]
 by_cases h:k % 2=0
 ·rw [if_pos h];exact ⟨_,rfl,.inl rfl⟩
 ·rw [if_neg h];exact ⟨_,rfl,.inr rfl⟩
theorem zEF (a b c d:Int) (k:Int):∃ x:Int,ofO (atD [.int a,.int b,.int c,.int d] (k % 4))=.ok (.int x):=by
 rcases (show k % 4=0∨k % 4=1∨k % 4=2∨k % 4=3 by omega) with h | h | h | h<;>rw [h]<;>exact ⟨_,rfl⟩
theorem wt9 (a0 a2 a3 a5 a6 a7:Sl) (c:Int) (ws:List Int) (hl:ws.length<=8):∃ (ws':List Int) (r:Rt),(eU [a0,.val (.int c),a2,a3,.own (ws.map D.int),a5,a6,a7]).bind fin=.ok r/\r.d=.lst (ws'.map D.int):=by
 walk_at "ev"
 by_cases z:c % 7=2
 ·obtain ⟨d,e1,e2⟩:=zES (a:=D.lst ((ws.drop 1).map D.int)) (b:=D.lst ((ws++[1]).map D.int)) (c / 7)
  rw [decide_eq_true z]
  walk_at "ev"
  rw [if_pos (by omega),xC (by decide)]
  walk_at "ev"
  rw [<-List.map_drop,show List.map D.int ws++[D.int 1]=(ws++[1]).map D.int by rw [List.map_append];rfl,vD,e1]
  walk_at "ev"
  rcases e2 with e2 | e2
  ·exact ⟨_,_,rfl,e2⟩
  ·exact ⟨_,_,rfl,e2⟩
 ·rw [decide_eq_false z]
  walk_at "ev"
  exact ⟨ws,_,rfl,rfl⟩
theorem wt6 (a0 a2 a3 a5 a6 a7:Sl) (c:Int) (ws:List Int) (hl:ws.length<=8):∃ (ws':List Int) (r:Rt),(dL [a0,.val (.int c),a2,a3,.own (ws.map D.int),a5,a6,a7]).bind fin=.ok r/\r.d=.lst (ws'.map D.int):=by
 have t9:=wt9 a0 a2 a3
 unfold dL
 generalize hK:(eU:Sv)=K at t9 ⊢
 walk_at "ev"
 rw [zDP]
 cases ws with
 | nil=>
  rw [decide_eq_true rfl]
  walk_at "ev"
  exact t9 _ _ _ _ [] (by decide)
 | cons w r=>
  rw [decide_eq_false (by simp)]
  walk_at "ev"
  by_cases z:c % 7=1
  ·have o50:nD (.int 10) (.int 50)=.ok (.int (10^50)):=oPow_i (by decide)
   obtain ⟨x,ex⟩:=zEF 0 (-1 - c / 700 % 10^50) (10^6+1) (10^6+c / 700 % 10^50+1) (c / 91)
   have p0:=Int.emod_nonneg (c / 7) (show ((r.length+1:Nat):Int)≠0 by omega)
   have p1:=Int.emod_lt_of_pos (c / 7) (show 0 < ((r.length+1:Nat):Int) by omega)
   obtain ⟨j,hj⟩:∃ j:Nat,c / 7 % ((r.length+1:Nat):Int)=(j:Int):=⟨_,(Int.toNat_of_nonneg p0).symm⟩
   rw [decide_eq_true z]
   walk_at "ev"
   rw [o50]
   walk_at "ev"
   rw [oPow_i zEs]
   walk_at "ev"
   rw [oPow_i zEs]
   walk_at "ev"
   rw [o50]
   walk_at "ev"
   unfold gX
   rw [zDG (ds:=(w::r).map D.int) (d:=.int x) (j:=j) (by
    walk_at "ev"
    rw [vD,ex]) rfl (by
    walk_at "ev"
    rw [oMod_i (by omega),fmod_pos _ (by omega),hj]
    walk_at "ev") (by rw [List.length_map,List.length_cons];omega)]
   walk_at "ev"
   rw [show (D.int w::r.map D.int)=(w::r).map D.int from rfl,<-List.map_set]
   exact t9 _ _ _ _ ((w::r).set j x) (by rw [List.length_set];exact hl)
  ·rw [decide_eq_false z]
   walk_at "ev"
   exact t9 _ _ _ _ (w::r) hl
theorem zIU (a b:Bool):oNe (.bl a) (.bl b)=.ok (.bl (a != b)):=by cases a<;>cases b<;>rfl
theorem zE (ns:List Int) (c:Int) (s:Str) (n:Nat) (hn:n<=8):∃ (ws:List Int) (r:Rt),cY [.lst (ns.map D.int),.int c,.str s,.int (n:Int)]=.ok r/\r.d=.lst (ws.map D.int):=by
 have t6:=wt6 (.val (.lst (ns.map D.int))) (.val (.str s)) (.val (.int (n:Int)))
 unfold cY hZ
 generalize hK:(dL:Sv)=K at t6 ⊢
 generalize hF:(zCn (vE (aB (aE 3) aNil)) (gName 5) gW:Sv)=F
 have key:∃ (ws:List Int) (r:Rt),((F [.val (.lst (ns.map D.int)),.val (.int c),.val (.str s),.val (.int (n:Int)),.own [],.un,.un,.un]).bind (wH K)).bind fin=.ok r/\r.d=.lst (ws.map D.int):=by
  subst hF
  walk_at "ev"
  rw [zB (by omega) (by omega)]
  walk_at "ev"
  refine zAk (Q:=fun r=>∃ (ws:List Int) (r':Rt),r.bind fin=.ok r'/\r'.d=.lst (ws.map D.int)) (k:=wH K) (fun i ρ=>∃ (ws:List Int) (a b:Sl),ρ=[.val (.lst (ns.map D.int)),.val (.int c),.val (.str s),.val (.int (n:Int)),.own (ws.map D.int),a,b,.un]/\ws.length=i) ⟨[],_,_,rfl,rfl⟩ ?_ ?_
  ·rintro i d ρ hd ⟨ws,a,b,rfl,hl⟩
   obtain ⟨hi,rfl⟩:=zDi hd
   rw [show (0:Int)+(i:Int) * 1=(i:Int) by omega]
   generalize hk:ns.getD (13+(i:Int)).toNat 0 % 10^30=k
   obtain ⟨y,ey,y0,y1⟩:=rC (x:=k / 2) (a:=4) (b:=10^6) k (by decide) (by decide)
   refine ⟨[.val (.lst (ns.map D.int)),.val (.int c),.val (.str s),.val (.int (n:Int)),.own ((ws++[1+y]).map D.int),.val (.int (i:Int)),.val (.int k),.un],?_,ws++[1+y],_,_,rfl,by rw [List.length_append,hl];rfl⟩
   walk_at "ev"
   rw [dA ns _ (by omega)]
   walk_at "ev"
   rw [hk,oPow_i zEs]
   walk_at "ev"
   rw [vD,pS]
   walk_at "ev"
   rw [ey]
   walk_at "ev"
   rw [if_pos (by omega),List.map_append]
   rfl
  ·rintro ρ ⟨ws,a,b,rfl,hl⟩
   rw [zDh] at hl
   exact t6 _ _ _ _ ws (by omega)
 walk_at "ev"
 generalize (s==Str.ofString "even")=b1
 have go:∀ b b':Bool,∃ (ws:List Int) (r:Rt),(((((oNe (.bl b) (.bl b')).bind blF).bind (ifF F sNext [.val (.lst (ns.map D.int)),.val (.int c),.val (.str s),.val (.int (n:Int)),.own [],.un,.un,.un])).bind (wH K)).bind fin=.ok r)/\r.d=.lst (ws.map D.int):=by
  intro b b'
  rw [zIU]
  cases b<;>cases b'
  ·rw [show (false != false)=false from rfl]
   walk_at "ev"
   exact t6 _ _ _ _ [] (by decide)
  ·rw [show (false != true)=true from rfl]
   walk_at "ev"
   exact key
  ·rw [show (true != false)=true from rfl]
   walk_at "ev"
   exact key
  ·rw [show (true != true)=false from rfl]
   walk_at "ev"
   exact t6 _ _ _ _ [] (by decide)
 cases b1
 ·walk_at "ev"
  exact go _ _
 ·walk_at "ev"
  exact go _ _
def kS (l:List Bool):Sv:=fun ρ=>.ok (.nx ((ρ.set 5 (.val (.int (if l=[true,false,false,false] then 0 else if l=[false,true,false,false] then 1 else if l=[false,false,true,false] then 2 else 3)))).set 8 (.val (.lst (l.map D.bl)))))
abbrev zCD:Sv:=(bQ (dU 8 (eF (iE (aB (uA yH 7 ["BadWay"]) (aB (uA yH 7 ["BadClaim"]) (aB (uA yH 7 ["BadWeights"]) (aB (uA yH 7 ["Outside"]) aNil))))))) gM)
theorem zDX {a b c d e f:Sl}:zCD [a,b,c,d,e,f,.val .non,.exc "BadWay", .un]=.ok (.nx [a,b,c,d,e,.val (.int 0),.val .non,.exc "BadWay", .val (.lst [.bl true,.bl false,.bl false,.bl false])]):=by
 with_unfolding_all rfl
theorem zEj {a b c d e f:Sl}:zCD [a,b,c,d,e,f,.val .non,.exc "BadClaim", .un]=.ok (.nx [a,b,c,d,e,.val (.int 1),.val .non,.exc "BadClaim", .val (.lst [.bl false,.bl true,.bl false,.bl false])]):=by
 with_unfolding_all rfl
theorem zEw {a b c d e f:Sl}:zCD [a,b,c,d,e,f,.val .non,.exc "BadWeights", .un]=.ok (.nx [a,b,c,d,e,.val (.int 2),.val .non,.exc "BadWeights", .val (.lst [.bl false,.bl false,.bl true,.bl false])]):=by
 with_unfolding_all rfl
theorem zDQ {a b c d e f:Sl}:zCD [a,b,c,d,e,f,.val .non,.exc "Outside", .un]=.ok (.nx [a,b,c,d,e,.val (.int 3),.val .non,.exc "Outside", .val (.lst [.bl false,.bl false,.bl false,.bl true])]):=by
 with_unfolding_all rfl
def cod:List (Str×Int):=[(Str.ofString "BadWay", 0),(Str.ofString "BadClaim", 1),(Str.ofString "BadWeights", 2),(Str.ofString "Outside", 3)]
theorem uR {a b c d e:D} {x:Str} {i:Int} (h:(x,i)∈cod):((zFE 7 zCD [.val a,.val b,.val c,.val d,.val e,.val (.int 4),.val .non,.un,.un] x (tbT.contains x)).bind (wH bU)).bind fin=.ok (.v (.tup [.int i,.non])):=by
 simp only [cod,List.mem_cons,List.not_mem_nil,or_false,Prod.mk.injEq] at h
 rcases h with ⟨rfl,rfl⟩ | ⟨rfl,rfl⟩ | ⟨rfl,rfl⟩ | ⟨rfl,rfl⟩
 ·rw [show tbT.contains (Str.ofString "BadWay")=true from rfl,tryE_t]
  show ((zEp 7 (zCD [.val a,.val b,.val c,.val d,.val e,.val (.int 4),.val .non,.exc "BadWay", .un])).bind (wH bU)).bind fin=_
  rw [zDX]
  rfl
 ·rw [show tbT.contains (Str.ofString "BadClaim")=true from rfl,tryE_t]
  show ((zEp 7 (zCD [.val a,.val b,.val c,.val d,.val e,.val (.int 4),.val .non,.exc "BadClaim", .un])).bind (wH bU)).bind fin=_
  rw [zEj]
  rfl
 ·rw [show tbT.contains (Str.ofString "BadWeights")=true from rfl,tryE_t]
  show ((zEp 7 (zCD [.val a,.val b,.val c,.val d,.val e,.val (.int 4),.val .non,.exc "BadWeights", .un])).bind (wH bU)).bind fin=_
  rw [zEw]
  rfl
 ·rw [show tbT.contains (Str.ofString "Outside")=true from rfl,tryE_t]
  show ((zEp 7 (zCD [.val a,.val b,.val c,.val d,.val e,.val (.int 4),.val .non,.exc "Outside", .un])).bind (wH bU)).bind fin=_
  rw [zDQ]
  rfl
theorem qN {way wd cd q:D} {x:Str} {i:Int} (h:bX [way,wd,cd]=.err x) (hx:(x,i)∈cod):aL [.int 0,way,wd,cd,q]=.ok (.v (.tup [.int i,.non])):=by
 unfold aL
 walk_at "ev"
 rw [h]
 walk_at "ev"
 exact uR hx
theorem zAh {way wd cd q:D} {r:Rt} (h:bX [way,wd,cd]=.ok r):aL [.int 0,way,wd,cd,q]=.ok (.v (.tup [.int 4,r.d])):=by
 unfold aL
 walk_at "ev"
 rw [h]
 walk_at "ev"
theorem mJ {way wd cd q:D} {x:Str} {i:Int} (h:eD [way,wd,cd,q]=.err x) (hx:(x,i)∈cod):aL [.int 1,way,wd,cd,q]=.ok (.v (.tup [.int i,.non])):=by
 unfold aL
 walk_at "ev"
 rw [h]
 walk_at "ev"
 exact uR hx
theorem zFq {way wd cd q:D} {r:Rt} (h:eD [way,wd,cd,q]=.ok r):aL [.int 1,way,wd,cd,q]=.ok (.v (.tup [.int 4,r.d])):=by
 unfold aL
 walk_at "ev"
 rw [h]
 walk_at "ev"
theorem zBS {way wd cd q:D} {x:Str} {i:Int} (h:bO [way]=.err x) (hx:(x,i)∈cod):aL [.int 2,way,wd,cd,q]=.ok (.v (.tup [.int i,.non])):=by
 unfold aL
 walk_at "ev"
 rw [h]
 walk_at "ev"
 exact uR hx
theorem zEn {way wd cd q:D} {r:Rt} (h:bO [way]=.ok r):aL [.int 2,way,wd,cd,q]=.ok (.v (.tup [.int 4,r.d])):=by
 unfold aL
 walk_at "ev"
 rw [h]
 walk_at "ev"
theorem oI {s wd cd q:D} {x:Str} (h:bX [s,wd,cd]=.err x):eD [s,wd,cd,q]=.err x:=by
 unfold eD
 walk_at "ev"
 rw [h]
 walk_at "ev"
theorem zCy {w:Wy} {ws cs:List Int} {wd cd:D} (sw:Sq wd ws) (sc:Sq cd cs) (hw:w.due ws cs) (hc:Cl cs) {q:Rat} (hq:Sz 400 q):
  ((q < 0∨(cs.sum:Rat) < q)/\eD [.str w.s,wd,cd,dq q]=.err "Outside")∨(¬ (q < 0∨(cs.sum:Rat) < q)/\∃ ds,eD [.str w.s,wd,cd,dq q]=.ok (.f ds)):=by
 by_cases h:q < 0∨(cs.sum:Rat) < q
 ·refine .inl ⟨h,?_⟩
  have sm:=hc.sum
  have sz:Sz 400 ((cs.sum:Int):Rat):=cK (by omega) (by decide)
  unfold eD
  walk_at "ev"
  rw [qY sw sc hw hc]
  walk_at "ev"
  rw [sc.sum]
  walk_at "ev"
  rw [cQ]
  walk_at "ev"
  rw [qO (by decide) hq sz h]
  walk_at "ev"
 ·refine .inr ⟨h,?_⟩
  have h0:0<=q:=Rat.not_lt.mp fun k=>h (.inl k)
  have h1:q<=(cs.sum:Rat):=Rat.not_lt.mp fun k=>h (.inr k)
  obtain ⟨f,e,_⟩:=zFj sw sc (m:=400) (by decide) hw hc ⟨h0,h1,hq⟩
  exact ⟨_,e⟩
theorem zEz {q:Rat} {W:Int}:(q.num < 0∨W * (q.den:Int) < q.num) ↔ (q < 0∨(W:Rat) < q):=by
 have a:q.num < 0 ↔ q < 0:=by
  rw [<-Int.not_le,<-Rat.not_le,Rat.num_nonneg]
 have b:W * (q.den:Int) < q.num ↔ (W:Rat) < q:=by
  rw [Rat.lt_iff,Rat.num_intCast,Rat.den_intCast]
  simp
 rw [a,b]
theorem zEo {s:Str} (h:aQ.lookup s=none):bO [.str s]=.err "BadWay" := by
 unfold bO
 walk_at "ev"
 rw [zR h]
 walk_at "ev"
def S13 (ns:List Int) (s:Str) (cs ws:List Int) (c:Int) (q:Rat) (h d f y:Sl):Rho:=[.val (.lst (ns.map D.int)),.val (.str s),.val (.lst (cs.map D.int)),.val (.lst (ws.map D.int)),.val (.int c),.val (.int cs.sum),.val (dq q),h,d,f,y]
theorem zFW {ns:List Int} {s:Str} {cs ws:List Int} {c:Int} {q:Rat} {h d f y:Sl} (hl:aQ.lookup s=none) (hn:iQ (.str s) (.lst wyl)=.ok (.bl true)):(gD (S13 ns s cs ws c q h d f y)).bind fin=.ok (.v (.bl true)):=by
 unfold wyl at hn
 unfold S13
 walk_at "ev"
 rw [hn]
 walk_at "ev"
 rw [zBS (zEo hl) (List.mem_cons_self)]
 walk_at "ev"
def Wy.con:Wy->Wy
 | .row=>.back
 | .back=>.row
 | .even=>.lack
 | .lack=>.even
 | .part=>.part
 | .half=>.half
theorem zIR (w:Wy):bO [.str w.s]=.ok (.v (.str w.con.s)):=by cases w<;>with_unfolding_all rfl
theorem wE {ns:List Int} {w:Wy} {cs ws:List Int} {c:Int} {q:Rat} {h d f y:Sl}:(gD (S13 ns w.s cs ws c q h d f y)).bind fin=.ok (.v (.bl true)):=by
 have hn:=zAT w
 unfold wyl at hn
 unfold S13
 walk_at "ev"
 rw [hn]
 walk_at "ev"
 rw [zEn (zIR w)]
 cases w<;>with_unfolding_all rfl
theorem zIO {ns:List Int} {s:Str} {cs ws:List Int} {c:Int} {q:Rat} {i':Int} {r':D} {b:Bool}
  (h1:aL [.int 1,.str s,.lst (ws.map D.int),.tup (cs.map D.int),dq q]=.ok (.v (.tup [.int i',r'])))
  (hr:(tyN r' == "list")=b) (hb:b=decide (i'=4)) (hlast:∀ h d f y,(gD (S13 ns s cs ws c q h d f y)).bind fin=.ok (.v (.bl true))):(mI (S13 ns s cs ws c q (.val (.lst [.lst (ws.map D.int),.lst (cs.map D.int)])) (.val (.int i')) .un .un)).bind fin=.ok (.v (.bl true)):=by
 have fi:∀ g,(gD (S13 ns s cs ws c q (.val (.lst [.lst (ws.map D.int),.lst (cs.map D.int)])) (.val (.int i')) g .un)).bind fin=.ok (.v (.bl true)):=fun g=>hlast _ _ _ _
 unfold S13 at fi
 unfold S13 mI wN
 generalize hK:(gD:Sv)=K at fi ⊢
 have ixa:oIx (.lst [.lst (ws.map D.int),.lst (cs.map D.int)]) (.int 0)=.ok (.lst (ws.map D.int)):=rfl
 have ixb:oIx (.lst [.lst (ws.map D.int),.lst (cs.map D.int)]) (.int 1)=.ok (.lst (cs.map D.int)):=rfl
 have n9:oNe (.lst [.lst (ws.map D.int),.lst (cs.map D.int)]) (.lst [.lst (ws.map D.int),.lst (cs.map D.int)])=.ok (.bl false):=yW (by
  have a:=mM ws
  have b:=mM cs
  simp only [dep,depS] at a b ⊢
  omega)
 have n8:oNe (.bl (decide (i'=4))) (.bl b)=.ok (.bl false):=by rw [hb];cases decide (i'=4)<;>rfl
 walk_at "ev"
 rw [ixa]
 walk_at "ev"
 rw [ixb]
 walk_at "ev"
 rw [h1]
 walk_at "ev"
 rw [hr,n8]
 walk_at "ev"
 rw [n9]
 walk_at "ev"
 exact fi _
theorem mid {ns:List Int} {s:Str} {cs ws:List Int} {c:Int} {q:Rat} {i i':Int} {r':D} {b:Bool} (hd:cJ [.str s,.lst (ws.map D.int),.lst (cs.map D.int)]=.ok (.v (.int i))) (h0:aL [.int 0,.str s,.lst (ws.map D.int),.lst (cs.map D.int),dq q]=.ok (.v (.tup [.int i,.non])))
  (h1:aL [.int 1,.str s,.lst (ws.map D.int),.tup (cs.map D.int),dq q]=.ok (.v (.tup [.int i',r']))) (hi:(i=4/\(q < 0∨(cs.sum:Rat) < q)/\i'=3)∨(¬ (i=4/\(q < 0∨(cs.sum:Rat) < q))/\i'=i))
  (hr:(tyN r' == "list")=b) (hb:b=decide (i'=4)) (hq:Sz 400 q) (hW:cs.sum.natAbs < 2^400) (hlast:∀ h d f y,(gD (S13 ns s cs ws c q h d f y)).bind fin=.ok (.v (.bl true))):(iH (S13 ns s cs ws c q .un .un .un .un)).bind fin=.ok (.v (.bl true)):=by
 have fi:=zIO (ns:=ns) (c:=c) h1 hr hb hlast
 unfold S13 at fi
 unfold S13 iH wR vR vL
 generalize hK:(mI:Sv)=K at fi ⊢
 walk_at "ev"
 rw [hd]
 walk_at "ev"
 have ixa:oIx (.lst [.lst (ws.map D.int),.lst (cs.map D.int)]) (.int 0)=.ok (.lst (ws.map D.int)):=rfl
 have ixb:oIx (.lst [.lst (ws.map D.int),.lst (cs.map D.int)]) (.int 1)=.ok (.lst (cs.map D.int)):=rfl
 have n0:oNe (.tup [.int i,.non]) (.tup [.int i,.non])=.ok (.bl false):=yW (by simp only [dep,depS];decide)
 rw [ixa]
 walk_at "ev"
 rw [ixb]
 walk_at "ev"
 rw [h0]
 walk_at "ev"
 rw [n0]
 have no:=zEz (q:=q) (W:=cs.sum)
 have om:pE (.int cs.sum) (.int (q.den:Int))=.ok (.int (cs.sum * (q.den:Int))):=oMul_i (cH (m:=400) (n:=400) (by omega) (by have:=hq.2;omega) (by decide))
 walk_at "ev"
 by_cases z4:i=4
 ·rw [decide_eq_true z4]
  walk_at "ev"
  by_cases z:q.num < 0
  ·have e3:i'=3:=by
    rcases hi with ⟨_,_,e⟩ | ⟨e,_⟩
    ·exact e
    ·exact absurd ⟨z4,no.mp (.inl z)⟩ e
   subst e3
   rw [decide_eq_true z]
   walk_at "ev"
   exact fi
  ·rw [decide_eq_false z]
   walk_at "ev"
   rw [om]
   walk_at "ev"
   by_cases z2:cs.sum * (q.den:Int) < q.num
   ·have e3:i'=3:=by
     rcases hi with ⟨_,_,e⟩ | ⟨e,_⟩
     ·exact e
     ·exact absurd ⟨z4,no.mp (.inr z2)⟩ e
    subst e3
    rw [decide_eq_true z2]
    walk_at "ev"
    exact fi
   ·have e3:i'=i:=by
     rcases hi with ⟨_,e,_⟩ | ⟨_,e⟩
     ·exact absurd (no.mpr e) (by rintro (k | k);exact z k;exact z2 k)
     ·exact e
    subst e3
    rw [decide_eq_false z2]
    walk_at "ev"
    exact fi
 ·have e3:i'=i:=by
   rcases hi with ⟨e,_⟩ | ⟨_,e⟩
   ·exact absurd e z4
   ·exact e
  subst e3
  rw [decide_eq_false z4]
  walk_at "ev"
  exact fi
theorem zFD {w:Wy} {ws cs:List Int} (h:w.due ws cs):ws.length=(if isW w=true then cs.length else 0)/\∀ w∈ws,1<=w/\w<=10^6:=by
 have nil:∀ {ws:List Int},ws=[]->ws.length=0/\∀ w∈ws,1<=w/\w<=10^6:=fun e=>by subst e;exact ⟨rfl,fun w hw=>by cases hw⟩
 cases w
 case even=>exact ⟨h.len,fun w hw=>⟨h.lo w hw,h.up w hw⟩⟩
 case lack=>exact ⟨h.len,fun w hw=>⟨h.lo w hw,h.up w hw⟩⟩
 all_goals exact nil h
theorem zGJ {ns:List Int} {s:Str} {cs ws:List Int} {c:Int} {q:Rat} (hu:∀ c∈cs,c < 10^30) (hl:cs.length<=12) (hq:Sz 400 q) (hW:cs.sum.natAbs < 2^400):(iH (S13 ns s cs ws c q .un .un .un .un)).bind fin=.ok (.v (.bl true)):=by
 have sw:Sq (.lst (ws.map D.int)) ws:=.inl rfl
 have sl:Sq (.lst (cs.map D.int)) cs:=.inl rfl
 have st:Sq (.tup (cs.map D.int)) cs:=.inr rfl
 rcases zDp s with ⟨w,rfl⟩ | ⟨hn,h1,h2⟩
 ·have nw:¬ ∀ v:Wy,w.s≠v.s:=fun k=>k w rfl
  have L0:=kF w.s sw sl hu hl
  have L1:=kF w.s sw st hu hl
  have ws_inj:∀ v:Wy,w.s=v.s->w=v:=fun v e=>by cases w<;>cases v<;>first | rfl | exact absurd e (by decide)
  obtain ⟨v,ev,L0⟩:=L0.resolve_left fun k=>nw k.1
  obtain ⟨v',ev',L1⟩:=L1.resolve_left fun k=>nw k.1
  have:=ws_inj v ev
  subst this
  have:=ws_inj v' ev'
  subst this
  rcases L0 with ⟨hc,e0⟩ | ⟨hc,L0⟩
  ·rcases L1 with ⟨_,e1⟩ | ⟨hc',_⟩
   ·exact mid (zIv hc) (qN e0 (by simp [cod])) (mJ (oI e1) (i:=1) (by simp [cod])) (.inr ⟨fun k=>absurd k.1 (by decide),rfl⟩) rfl rfl hq hW fun _ _ _ _=>wE
   ·exfalso
    rcases hc with rfl | ⟨x,hx,k⟩
    ·exact absurd hc'.lo (by decide)
    ·have:=hc'.nn x hx;omega
  ·rcases L1 with ⟨hc',_⟩ | ⟨_,L1⟩
   ·exfalso
    rcases hc' with rfl | ⟨x,hx,k⟩
    ·exact absurd hc.lo (by decide)
    ·have:=hc.nn x hx;omega
   ·rcases L0 with ⟨hw,e0⟩ | ⟨hw,e0⟩
    ·rcases L1 with ⟨_,e1⟩ | ⟨hd,e1⟩
     ·exact mid ((yN hc).2 hw) (qN e0 (by simp [cod])) (mJ (oI e1) (i:=2) (by simp [cod])) (.inr ⟨fun k=>absurd k.1 (by decide),rfl⟩) rfl rfl hq hW fun _ _ _ _=>wE
     ·exact absurd (zFD hd) hw
    ·rcases zCy sw st hw hc hq with ⟨ho,e1⟩ | ⟨ho,ds,e1⟩
     ·exact mid ((yN hc).1 hw) (zAh e0) (mJ e1 (i:=3) (by simp [cod])) (.inl ⟨rfl,ho,rfl⟩) rfl rfl hq hW fun _ _ _ _=>wE
     ·exact mid ((yN hc).1 hw) (zAh e0) (zFq e1) (.inr ⟨fun k=>ho k.2,rfl⟩) rfl rfl hq hW fun _ _ _ _=>wE
 ·have L0:=kF s sw sl hu hl
  have L1:=kF s sw st hu hl
  have e0:=(L0.resolve_right fun ⟨w,e,_⟩=>hn w e).2
  have e1:=(L1.resolve_right fun ⟨w,e,_⟩=>hn w e).2
  exact mid (zIq h2) (qN e0 (by simp [cod])) (mJ (oI e1) (i:=0) (by simp [cod])) (.inr ⟨fun k=>absurd k.1 (by decide),rfl⟩) rfl rfl hq hW fun _ _ _ _=>zFW h1 h2
theorem zBg:∀ {cs:List Int},(∀ x∈cs,-(10^60) < x/\x < 10^30)->cs.sum.natAbs<=cs.length * 10^60
 | [],_=>by decide
 | c::r,h=>by
  have ih:=zBg fun x hx=>h x (List.mem_cons_of_mem _ hx)
  have h0:=h c List.mem_cons_self
  rw [List.sum_cons,List.length_cons,Nat.succ_mul]
  omega
theorem law_true (ns:List Int) (hn:ns.length<=63):zEq [.lst (ns.map D.int)]=.ok (.v (.bl true)):=by
 obtain ⟨s,es⟩:=zIz (ns.getD 0 0 % 10^30)
 obtain ⟨cs,ec,c8,cb⟩:=zCt ns (ns.getD 1 0 % 10^60)
 obtain ⟨ws,r,ew,er⟩:=zE ns (ns.getD 2 0 % 10^60) s cs.length c8
 have ew':(cY [.lst (ns.map D.int),.int (ns.getD 2 0 % 10^60),.str s,.int (cs.length:Int)]).bind rtF=.ok (.lst (ws.map D.int)):=by
  rw [ew]
  show Res.ok r.d=_
  rw [er]
 have sa:=zBg cb
 have hW:cs.sum.natAbs < 2^300:=Nat.lt_of_le_of_lt sa (Nat.lt_of_le_of_lt (Nat.mul_le_mul_right _ c8) (by decide))
 have hW4:cs.sum.natAbs < 2^400:=Nat.lt_trans hW (by decide)
 have t11:∀ (c:Int) (t:Int),t.natAbs < 2^400->(iH (S13 ns s cs ws c (Rat.divInt t 2) .un .un .un .un)).bind fin=.ok (.v (.bl true)):=fun c t ht=>zGJ (fun c hc=>(cb c hc).2) (by omega) (Sz.of (by decide) ht (by decide)) hW4
 have fr:∀ t:Int,bN [.int t,.int 2]=.ok (.v (dq (Rat.divInt t 2))):=fun t=>zAw (n:=2) (by decide) (by decide) (by decide)
 unfold S13 at t11
 unfold zEq zBm zQ zAy zBc zBx yI zBB
 generalize hK:(iH:Sv)=K at t11 ⊢
 walk_at "ev"
 rw [dA ns _ (by decide)]
 walk_at "ev"
 rw [es]
 walk_at "ev"
 rw [dA ns _ (by decide)]
 walk_at "ev"
 rw [ec]
 walk_at "ev"
 rw [dA ns _ (by decide)]
 walk_at "ev"
 rw [ew']
 walk_at "ev"
 rw [dA ns _ (by decide)]
 walk_at "ev"
 generalize hc:ns.getD 3 0 % 10^60=c
 have c0:0<=c:=by rw [<-hc];exact Int.emod_nonneg _ (by decide)
 have c1:c < 10^60:=by rw [<-hc];exact Int.emod_lt_of_pos _ (by decide)
 have o50:nD (.int 10) (.int 50)=.ok (.int (10^50)):=oPow_i (by decide)
 obtain ⟨y,ey,y0,y1⟩:=rC (x:=c / 12) (a:=3) (b:=10^50) (c / 4) (by decide) (by decide)
 have m0:=Int.emod_nonneg (c / 12) (show (2 * (cs.sum.natAbs:Int)+1)≠0 by omega)
 have m1:=Int.emod_lt_of_pos (c / 12) (show 0 < (2 * (cs.sum.natAbs:Int)+1) by omega)
 have big:(2:Nat)^400=2^100 * 2^300:=by decide
 have b3:(10:Int)^50 < 2^300:=by decide
 rw [oMod_i (by omega),fmod_pos _ (by omega)]
 walk_at "ev"
 rw [fr]
 walk_at "ev"
 by_cases z1:c % 4=1
 ·rw [decide_eq_true z1]
  walk_at "ev"
  rw [o50]
  walk_at "ev"
  rw [vD,pS]
  walk_at "ev"
  rw [ey]
  walk_at "ev"
  rw [fr]
  walk_at "ev"
  rw [decide_eq_false (by omega)]
  walk_at "ev"
  exact t11 _ _ (by omega)
 ·rw [decide_eq_false z1]
  walk_at "ev"
  by_cases z2:c % 4=2
  ·rw [decide_eq_true z2]
   walk_at "ev"
   rw [o50]
   walk_at "ev"
   rw [vD,pS]
   walk_at "ev"
   rw [ey]
   walk_at "ev"
   rw [fr]
   walk_at "ev"
   exact t11 _ _ (by omega)
  ·rw [decide_eq_false z2]
   walk_at "ev"
   exact t11 _ _ (by omega)
end Lw
namespace Lw
open PySem PySem.Spec PyProof.Rows L2 L3
def top (i:Nat):Stmt:=PySem.Challenge.pw_catchhall_k13_what_is_looked_at.main.body.getD i (.Pass ⟨0,0,0,0⟩)
abbrev eG:Stmt:=top 15
theorem bP:FnScope ["one", "two", "rest"] ["one", "two"] (aD eG):=⟨rfl,rfl,rfl,by decide +kernel,rfl,by decide +kernel,by decide +kernel⟩
abbrev zBH:Stmt:=top 16
theorem vF:FnScope ["top", "bottom", "divisor"] ["top", "bottom"] (aD zBH):=⟨rfl,rfl,rfl,by decide +kernel,rfl,by decide +kernel,by decide +kernel⟩
abbrev vH:Stmt:=top 17
theorem zCr:FnScope ["number"] ["number"] (aD vH):=⟨rfl,rfl,rfl,by decide +kernel,rfl,by decide +kernel,by decide +kernel⟩
abbrev yK:Stmt:=top 18
theorem zEE:FnScope ["one", "two"] ["one", "two"] (aD yK):=⟨rfl,rfl,rfl,by decide +kernel,rfl,by decide +kernel,by decide +kernel⟩
abbrev uL:Stmt:=top 19
theorem zCN:FnScope ["one", "two"] ["one", "two"] (aD uL):=⟨rfl,rfl,rfl,by decide +kernel,rfl,by decide +kernel,by decide +kernel⟩
abbrev vJ:Stmt:=top 20
theorem zCx:FnScope ["one", "two"] ["one", "two"] (aD vJ):=⟨rfl,rfl,rfl,by decide +kernel,rfl,by decide +kernel,by decide +kernel⟩
abbrev zAo:Stmt:=top 21
theorem zFw:FnScope ["one", "two"] ["one", "two"] (aD zAo):=⟨rfl,rfl,rfl,by decide +kernel,rfl,by decide +kernel,by decide +kernel⟩
abbrev zBd:Stmt:=top 22
theorem zEt:FnScope ["one", "two"] ["one", "two"] (aD zBd):=⟨rfl,rfl,rfl,by decide +kernel,rfl,by decide +kernel,by decide +kernel⟩
abbrev qF:Stmt:=top 23
theorem zAb:FnScope ["one", "two"] ["one", "two"] (aD qF):=⟨rfl,rfl,rfl,by decide +kernel,rfl,by decide +kernel,by decide +kernel⟩
abbrev gZ:Stmt:=top 24
theorem rE:FnScope ["amount", "most"] ["amount", "most"] (aD gZ):=⟨rfl,rfl,rfl,by decide +kernel,rfl,by decide +kernel,by decide +kernel⟩
abbrev eE:Stmt:=top 25
theorem kR:FnScope ["amount", "most"] ["amount", "most"] (aD eE):=⟨rfl,rfl,rfl,by decide +kernel,rfl,by decide +kernel,by decide +kernel⟩
abbrev eJ:Stmt:=top 26
theorem jP:FnScope ["some", "bottom", "each"] ["some"] (aD eJ):=⟨rfl,rfl,rfl,by decide +kernel,rfl,by decide +kernel,by decide +kernel⟩
abbrev qD:Stmt:=top 31
theorem zAd:FnScope ["way", "weights", "claims"] ["way", "weights", "claims"] (aD qD):=⟨rfl,rfl,rfl,by decide +kernel,rfl,by decide +kernel,by decide +kernel⟩
abbrev gT:Stmt:=top 32
theorem qW:FnScope ["way"] ["way"] (aD gT):=⟨rfl,rfl,rfl,by decide +kernel,rfl,by decide +kernel,by decide +kernel⟩
abbrev eQ:Stmt:=top 33
theorem gK:FnScope ["claims", "claim"] ["claims"] (aD eQ):=⟨rfl,rfl,rfl,by decide +kernel,rfl,by decide +kernel,by decide +kernel⟩
abbrev eH:Stmt:=top 34
theorem dQ:FnScope ["way", "weights", "many", "due", "weight"] ["way", "weights", "many"] (aD eH):=⟨rfl,rfl,rfl,by decide +kernel,rfl,by decide +kernel,by decide +kernel⟩
abbrev fK:Stmt:=top 35
theorem nT:FnScope ["way"] ["way"] (aD fK):=⟨rfl,rfl,rfl,by decide +kernel,rfl,by decide +kernel,by decide +kernel⟩
abbrev vB:Stmt:=top 36
theorem zCp:FnScope ["way", "weights", "claims", "catch"] ["way", "weights", "claims", "catch"] (aD vB):=⟨rfl,rfl,rfl,by decide +kernel,rfl,by decide +kernel,by decide +kernel⟩
abbrev cV:Stmt:=top 37
theorem dC:FnScope ["way", "weights", "claims", "catch", "most", "lacking"] ["way", "weights", "claims", "catch"] (aD cV):=⟨rfl,rfl,rfl,by decide +kernel,rfl,by decide +kernel,by decide +kernel⟩
abbrev iU:Stmt:=top 38
theorem dF:FnScope ["claims", "catch", "left", "amounts", "claim", "amount"] ["claims", "catch"] (aD iU):=⟨rfl,rfl,rfl,by decide +kernel,rfl,by decide +kernel,by decide +kernel⟩
abbrev gY:Stmt:=top 39
theorem bW:FnScope ["weights", "claims", "catch", "left", "weight", "amounts", "spot", "by_weight"] ["weights", "claims", "catch"] (aD gY):=⟨rfl,rfl,rfl,by decide +kernel,rfl,by decide +kernel,by decide +kernel⟩
abbrev gF:Stmt:=top 40
theorem tV:FnScope ["weights", "claims"] ["weights", "claims"] (aD gF):=⟨rfl,rfl,rfl,by decide +kernel,rfl,by decide +kernel,by decide +kernel⟩
abbrev fF:Stmt:=top 41
theorem eM:FnScope ["claims", "catch", "most", "part"] ["claims", "catch"] (aD fF):=⟨rfl,rfl,rfl,by decide +kernel,rfl,by decide +kernel,by decide +kernel⟩
abbrev eZ:Stmt:=top 42
theorem gC:FnScope ["claims", "catch", "ones"] ["claims", "catch"] (aD eZ):=⟨rfl,rfl,rfl,by decide +kernel,rfl,by decide +kernel,by decide +kernel⟩
abbrev fW:Stmt:=top 44
theorem pG:FnScope ["script", "k"] ["script", "k"] (aD fW):=⟨rfl,rfl,rfl,by decide +kernel,rfl,by decide +kernel,by decide +kernel⟩
abbrev fH:Stmt:=top 45
theorem cC:FnScope ["top", "bottom", "one", "two", "rest"] ["top", "bottom"] (aD fH):=⟨rfl,rfl,rfl,by decide +kernel,rfl,by decide +kernel,by decide +kernel⟩
abbrev nM:Stmt:=top 46
theorem xK:FnScope ["cell"] ["cell"] (aD nM):=⟨rfl,rfl,rfl,by decide +kernel,rfl,by decide +kernel,by decide +kernel⟩
abbrev hU:Stmt:=top 47
theorem cZ:FnScope ["script", "cell", "many", "claims", "k", "one"] ["script", "cell"] (aD hU):=⟨rfl,rfl,rfl,by decide +kernel,rfl,by decide +kernel,by decide +kernel⟩
abbrev gA:Stmt:=top 48
theorem cP:FnScope ["script", "cell", "way", "many", "weights", "k", "one", "bad"] ["script", "cell", "way", "many"] (aD gA):=⟨rfl,rfl,rfl,by decide +kernel,rfl,by decide +kernel,by decide +kernel⟩
abbrev mZ:Stmt:=top 49
theorem xH:FnScope ["way", "weights", "claims"] ["way", "weights", "claims"] (aD mZ):=⟨rfl,rfl,rfl,by decide +kernel,rfl,by decide +kernel,by decide +kernel⟩
abbrev eK:Stmt:=top 50
theorem bA:FnScope ["ask", "way", "weights", "claims", "catch", "found", "told", "e", "kinds"] ["ask", "way", "weights", "claims", "catch"] (aD eK):=⟨rfl,rfl,rfl,by decide +kernel,rfl,by decide +kernel,by decide +kernel⟩
abbrev nH:Stmt:=top 51
theorem fE:FnScope ["script", "way", "claims", "weights", "cell", "whole_v", "catch", "handed", "due", "found", "ways"] ["script"] (aD nH):=⟨rfl,rfl,rfl,by decide +kernel,rfl,by decide +kernel,by decide +kernel⟩
structure Bt (mg:Str->Option Value):Prop where
 abs:mg "abs" = none
 sorted:mg "sorted" = none
 range:mg "range" = none
 len:mg "len" = none
 sum:mg "sum" = none
 zip:mg "zip" = none
 min:mg "min" = none
 int:mg "int" = none
 max:mg "max" = none
 isinstance:mg "isinstance" = none
 list:mg "list" = none
 tuple:mg "tuple" = none
structure Kt (K:PySem.W.Frag):Prop where
 list:Kit K "list"
structure Ct (K:PySem.W.Frag) (mg:Str->Option Value):Prop where
 HALF:∃ v u,mg "HALF" = some u/\cD v u/\IsD K (fun _=>none) v d_HALF
 NOUGHT:∃ v u,mg "NOUGHT" = some u/\cD v u/\IsD K (fun _=>none) v kD
 WEIGHTED:∃ v u,mg "WEIGHTED" = some u/\cD v u/\IsD K (fun _=>none) v d_WEIGHTED
 CONTRARY:∃ a,IsTab K mg "CONTRARY" aQ a
structure Rt (K:PySem.W.Frag) (mg:Str->Option Value):Prop where
 BadClaim:∃ C,Err K mg "BadClaim" C
 BadWay:∃ C,Err K mg "BadWay" C
 BadWeights:∃ C,Err K mg "BadWeights" C
 NoFraction:∃ C,Err K mg "NoFraction" C
 Outside:∃ C,Err K mg "Outside" C
structure Et (K:PySem.W.Frag) (mg:Str->Option Value):Prop where
 cat:∀ c,tbT.contains c=true->Cat K mg "CatchError" c
 ek:EK K mg yH ["Outside", "BadWeights", "BadClaim", "BadWay", "ValueError", "Unlike", "TooMany", "NoText", "NoFraction", "NoBoat", "BadLine", "BadCatch"]
theorem zIr {K:PySem.W.Frag} {h:Heap} {mg:Str->Option Value} {t0 t1 t2 t3 t4 t5:Tok} {pHALF0:Addr} {o_pHALF0:Option Addr} {n_pHALF0:Nat} {s_pHALF0:Array (Option Value)} {pNOUGHT1:Addr} {o_pNOUGHT1:Option Addr} {n_pNOUGHT1:Nat} {s_pNOUGHT1:Array (Option Value)} {pWEIGHTED2:Addr} {o_pWEIGHTED2:Option Addr} {n_pWEIGHTED2:Nat} {s_pWEIGHTED2:Array (Option Value)} {a_CONTRARY:Addr} (X:K.In h) (G:h.Ns mainGlobals mg) (n_HALF:PySem.W.nsIn K mainGlobals "HALF" = some (some (.ref pHALF0))) (pHALF0_l:K.lookup pHALF0=some ⟨.type "tuple", o_pHALF0,.seq #[.int (1) t0,.int (2) t1] n_pHALF0,s_pHALF0⟩) (n_NOUGHT:PySem.W.nsIn K mainGlobals "NOUGHT" = some (some (.ref pNOUGHT1))) (pNOUGHT1_l:K.lookup pNOUGHT1=some ⟨.type "tuple", o_pNOUGHT1,.seq #[.int (0) t2,.int (1) t3] n_pNOUGHT1,s_pNOUGHT1⟩) (n_WEIGHTED:PySem.W.nsIn K mainGlobals "WEIGHTED" = some (some (.ref pWEIGHTED2))) (pWEIGHTED2_l:K.lookup pWEIGHTED2=some ⟨.type "tuple", o_pWEIGHTED2,.seq #[.str "even" t4,.str "lack" t5] n_pWEIGHTED2,s_pWEIGHTED2⟩) (n_CONTRARY:PySem.W.nsIn K mainGlobals "CONTRARY" = some (some (.ref a_CONTRARY))) (aQ:PyProof.Rows.KTD.tabLook (PyProof.Rows.KTD.datLooks fun a=>K.lookup a) (fun a=>K.lookup a) a_CONTRARY (zCv Lw.aQ)=true):Ct K mg:=⟨⟨.ref pHALF0,_,PySem.W.mg_of X G n_HALF,rfl,(.tup (.inr ⟨_,_,_,pHALF0_l,rfl,rfl,Nat.le_of_ble_eq_true rfl,(.cons (show cD (.int (1)) _ from ⟨_,rfl⟩) (.cons (show cD (.int (2)) _ from ⟨_,rfl⟩) .nil))⟩) (.cons (.int _) (.cons (.int _) .nil)))⟩,⟨.ref pNOUGHT1,_,PySem.W.mg_of X G n_NOUGHT,rfl,(.tup (.inr ⟨_,_,_,pNOUGHT1_l,rfl,rfl,Nat.le_of_ble_eq_true rfl,(.cons (show cD (.int (0)) _ from ⟨_,rfl⟩) (.cons (show cD (.int (1)) _ from ⟨_,rfl⟩) .nil))⟩) (.cons (.int _) (.cons (.int _) .nil)))⟩,⟨.ref pWEIGHTED2,_,PySem.W.mg_of X G n_WEIGHTED,rfl,(.tup (.inr ⟨_,_,_,pWEIGHTED2_l,rfl,rfl,Nat.le_of_ble_eq_true rfl,(.cons (show cD (.str "even") _ from ⟨_,rfl⟩) (.cons (show cD (.str "lack") _ from ⟨_,rfl⟩) .nil))⟩) (.cons (.str _) (.cons (.str _) .nil)))⟩,⟨a_CONTRARY,PySem.W.mg_of X G n_CONTRARY,fun h X=>PyProof.Rows.KTD.text_of_look X aQ⟩⟩
theorem zIf {K:PySem.W.Frag} {h:Heap} {mg:Str->Option Value} {C_BadClaim:Addr} {C_BadWay:Addr} {C_BadWeights:Addr} {C_NoFraction:Addr} {C_Outside:Addr} (X:K.In h) (G:h.Ns mainGlobals mg) (n_BadClaim:PySem.W.nsIn K mainGlobals "BadClaim" = some (some (.ref C_BadClaim))) (x_BadClaim:PySem.W.excIn K C_BadClaim [.type "ValueError", .type "Exception", .type "BaseException", .type "object"] "ValueError.__new__" = true) (n_BadWay:PySem.W.nsIn K mainGlobals "BadWay" = some (some (.ref C_BadWay))) (x_BadWay:PySem.W.excIn K C_BadWay [.type "ValueError", .type "Exception", .type "BaseException", .type "object"] "ValueError.__new__" = true) (n_BadWeights:PySem.W.nsIn K mainGlobals "BadWeights" = some (some (.ref C_BadWeights))) (x_BadWeights:PySem.W.excIn K C_BadWeights [.type "ValueError", .type "Exception", .type "BaseException", .type "object"] "ValueError.__new__" = true) (n_NoFraction:PySem.W.nsIn K mainGlobals "NoFraction" = some (some (.ref C_NoFraction))) (x_NoFraction:PySem.W.excIn K C_NoFraction [.type "ValueError", .type "Exception", .type "BaseException", .type "object"] "ValueError.__new__" = true) (n_Outside:PySem.W.nsIn K mainGlobals "Outside" = some (some (.ref C_Outside))) (x_Outside:PySem.W.excIn K C_Outside [.type "ValueError", .type "Exception", .type "BaseException", .type "object"] "ValueError.__new__" = true):Rt K mg:=⟨tJ X G n_BadClaim x_BadClaim PySem.F.excBase_ValueError,tJ X G n_BadWay x_BadWay PySem.F.excBase_ValueError,tJ X G n_BadWeights x_BadWeights PySem.F.excBase_ValueError,tJ X G n_NoFraction x_NoFraction PySem.F.excBase_ValueError,tJ X G n_Outside x_Outside PySem.F.excBase_ValueError⟩
theorem zId {K:PySem.W.Frag} {h:Heap} {mg:Str->Option Value} {C_CatchError:Addr} {C_BadWay:Addr} {C_BadClaim:Addr} {C_BadWeights:Addr} {C_Outside:Addr} {C_Unlike:Addr} {C_TooMany:Addr} {C_NoText:Addr} {C_NoFraction:Addr} {C_NoBoat:Addr} {C_BadLine:Addr} {C_BadCatch:Addr} (X:K.In h) (G:h.Ns mainGlobals mg)
  (n_CatchError:PySem.W.nsIn K mainGlobals "CatchError" = some (some (.ref C_CatchError)))
  (n_BadWay:PySem.W.nsIn K mainGlobals "BadWay" = some (some (.ref C_BadWay)))
  (n_BadClaim:PySem.W.nsIn K mainGlobals "BadClaim" = some (some (.ref C_BadClaim)))
  (n_BadWeights:PySem.W.nsIn K mainGlobals "BadWeights" = some (some (.ref C_BadWeights)))
  (n_Outside:PySem.W.nsIn K mainGlobals "Outside" = some (some (.ref C_Outside)))
  (n_Unlike:PySem.W.nsIn K mainGlobals "Unlike" = some (some (.ref C_Unlike)))
  (n_TooMany:PySem.W.nsIn K mainGlobals "TooMany" = some (some (.ref C_TooMany)))
  (n_NoText:PySem.W.nsIn K mainGlobals "NoText" = some (some (.ref C_NoText)))
  (n_NoFraction:PySem.W.nsIn K mainGlobals "NoFraction" = some (some (.ref C_NoFraction)))
  (n_NoBoat:PySem.W.nsIn K mainGlobals "NoBoat" = some (some (.ref C_NoBoat)))
  (n_BadLine:PySem.W.nsIn K mainGlobals "BadLine" = some (some (.ref C_BadLine)))
  (n_BadCatch:PySem.W.nsIn K mainGlobals "BadCatch" = some (some (.ref C_BadCatch)))
  (z_ValueError:PySem.W.nsIn K mainGlobals "ValueError" = some none)
  (ce1:PySem.W.typeIn K (.ref C_CatchError)=some (.type "type"))
  (ce2:PySem.W.hasDictIn K C_CatchError=true)
  (ce3:PySem.W.mroIn K C_CatchError (.type "BaseException")=some true)
  (g5:PySem.W.specialIn K (.builtin "object.__class__") "__get__" = some (some (.builtin "getset_descriptor.__get__")))
  (g6:PySem.W.takesIn K (.builtin "object.__class__")=some true)
  (e1_BadWay:PySem.W.hasDictIn K C_BadWay=true)
  (e2_BadWay:PySem.W.findIn K (.ref C_BadWay) "__getattribute__" = some (some (.builtin "BaseException.__getattribute__")))
  (e3_BadWay:PySem.W.findIn K (.ref C_BadWay) "__getattr__" = some none)
  (e4_BadWay:PySem.W.findIn K (.ref C_BadWay) "__class__" = some (some (.builtin "object.__class__")))
  (e7_BadWay:PySem.W.mroIn K C_BadWay (.type "object")=some true)
  (e8_BadWay:PySem.W.mroIn K C_BadWay (.type "BaseException")=some true)
  (em_BadWay:PySem.W.mroIn K C_BadWay (.ref C_CatchError)=some true)
  (k_BadWay_Outside:PySem.W.kitOne K (.ref C_BadWay) (.ref C_Outside)=some false)
  (k_BadWay_BadWeights:PySem.W.kitOne K (.ref C_BadWay) (.ref C_BadWeights)=some false)
  (k_BadWay_BadClaim:PySem.W.kitOne K (.ref C_BadWay) (.ref C_BadClaim)=some false)
  (k_BadWay_BadWay:PySem.W.kitOne K (.ref C_BadWay) (.ref C_BadWay)=some true)
  (k_BadWay_ValueError:PySem.W.kitOne K (.ref C_BadWay) (.type "ValueError")=some true)
  (k_BadWay_Unlike:PySem.W.kitOne K (.ref C_BadWay) (.ref C_Unlike)=some false)
  (k_BadWay_TooMany:PySem.W.kitOne K (.ref C_BadWay) (.ref C_TooMany)=some false)
  (k_BadWay_NoText:PySem.W.kitOne K (.ref C_BadWay) (.ref C_NoText)=some false)
  (k_BadWay_NoFraction:PySem.W.kitOne K (.ref C_BadWay) (.ref C_NoFraction)=some false)
  (k_BadWay_NoBoat:PySem.W.kitOne K (.ref C_BadWay) (.ref C_NoBoat)=some false)
  (k_BadWay_BadLine:PySem.W.kitOne K (.ref C_BadWay) (.ref C_BadLine)=some false)
  (k_BadWay_BadCatch:PySem.W.kitOne K (.ref C_BadWay) (.ref C_BadCatch)=some false)
  (e1_BadClaim:PySem.W.hasDictIn K C_BadClaim=true)
  (e2_BadClaim:PySem.W.findIn K (.ref C_BadClaim) "__getattribute__" = some (some (.builtin "BaseException.__getattribute__")))
  (e3_BadClaim:PySem.W.findIn K (.ref C_BadClaim) "__getattr__" = some none)
  (e4_BadClaim:PySem.W.findIn K (.ref C_BadClaim) "__class__" = some (some (.builtin "object.__class__")))
  (e7_BadClaim:PySem.W.mroIn K C_BadClaim (.type "object")=some true)
  (e8_BadClaim:PySem.W.mroIn K C_BadClaim (.type "BaseException")=some true)
  (em_BadClaim:PySem.W.mroIn K C_BadClaim (.ref C_CatchError)=some true)
  (k_BadClaim_Outside:PySem.W.kitOne K (.ref C_BadClaim) (.ref C_Outside)=some false)
  (k_BadClaim_BadWeights:PySem.W.kitOne K (.ref C_BadClaim) (.ref C_BadWeights)=some false)
  (k_BadClaim_BadClaim:PySem.W.kitOne K (.ref C_BadClaim) (.ref C_BadClaim)=some true)
  (k_BadClaim_BadWay:PySem.W.kitOne K (.ref C_BadClaim) (.ref C_BadWay)=some false)
  (k_BadClaim_ValueError:PySem.W.kitOne K (.ref C_BadClaim) (.type "ValueError")=some true)
  (k_BadClaim_Unlike:PySem.W.kitOne K (.ref C_BadClaim) (.ref C_Unlike)=some false)
  (k_BadClaim_TooMany:PySem.W.kitOne K (.ref C_BadClaim) (.ref C_TooMany)=some false)
  (k_BadClaim_NoText:PySem.W.kitOne K (.ref C_BadClaim) (.ref C_NoText)=some false)
  (k_BadClaim_NoFraction:PySem.W.kitOne K (.ref C_BadClaim) (.ref C_NoFraction)=some false)
  (k_BadClaim_NoBoat:PySem.W.kitOne K (.ref C_BadClaim) (.ref C_NoBoat)=some false)
  (k_BadClaim_BadLine:PySem.W.kitOne K (.ref C_BadClaim) (.ref C_BadLine)=some false)
  (k_BadClaim_BadCatch:PySem.W.kitOne K (.ref C_BadClaim) (.ref C_BadCatch)=some false)
  (e1_BadWeights:PySem.W.hasDictIn K C_BadWeights=true)
  (e2_BadWeights:PySem.W.findIn K (.ref C_BadWeights) "__getattribute__" = some (some (.builtin "BaseException.__getattribute__")))
  (e3_BadWeights:PySem.W.findIn K (.ref C_BadWeights) "__getattr__" = some none)
  (e4_BadWeights:PySem.W.findIn K (.ref C_BadWeights) "__class__" = some (some (.builtin "object.__class__")))
  (e7_BadWeights:PySem.W.mroIn K C_BadWeights (.type "object")=some true)
  (e8_BadWeights:PySem.W.mroIn K C_BadWeights (.type "BaseException")=some true)
  (em_BadWeights:PySem.W.mroIn K C_BadWeights (.ref C_CatchError)=some true)
  (k_BadWeights_Outside:PySem.W.kitOne K (.ref C_BadWeights) (.ref C_Outside)=some false)
  (k_BadWeights_BadWeights:PySem.W.kitOne K (.ref C_BadWeights) (.ref C_BadWeights)=some true)
  (k_BadWeights_BadClaim:PySem.W.kitOne K (.ref C_BadWeights) (.ref C_BadClaim)=some false)
  (k_BadWeights_BadWay:PySem.W.kitOne K (.ref C_BadWeights) (.ref C_BadWay)=some false)
  (k_BadWeights_ValueError:PySem.W.kitOne K (.ref C_BadWeights) (.type "ValueError")=some true)
  (k_BadWeights_Unlike:PySem.W.kitOne K (.ref C_BadWeights) (.ref C_Unlike)=some false)
  (k_BadWeights_TooMany:PySem.W.kitOne K (.ref C_BadWeights) (.ref C_TooMany)=some false)
  (k_BadWeights_NoText:PySem.W.kitOne K (.ref C_BadWeights) (.ref C_NoText)=some false)
  (k_BadWeights_NoFraction:PySem.W.kitOne K (.ref C_BadWeights) (.ref C_NoFraction)=some false)
  (k_BadWeights_NoBoat:PySem.W.kitOne K (.ref C_BadWeights) (.ref C_NoBoat)=some false)
  (k_BadWeights_BadLine:PySem.W.kitOne K (.ref C_BadWeights) (.ref C_BadLine)=some false)
  (k_BadWeights_BadCatch:PySem.W.kitOne K (.ref C_BadWeights) (.ref C_BadCatch)=some false)
  (e1_Outside:PySem.W.hasDictIn K C_Outside=true)
  (e2_Outside:PySem.W.findIn K (.ref C_Outside) "__getattribute__" = some (some (.builtin "BaseException.__getattribute__")))
  (e3_Outside:PySem.W.findIn K (.ref C_Outside) "__getattr__" = some none)
  (e4_Outside:PySem.W.findIn K (.ref C_Outside) "__class__" = some (some (.builtin "object.__class__")))
  (e7_Outside:PySem.W.mroIn K C_Outside (.type "object")=some true)
  (e8_Outside:PySem.W.mroIn K C_Outside (.type "BaseException")=some true)
  (em_Outside:PySem.W.mroIn K C_Outside (.ref C_CatchError)=some true)
  (k_Outside_Outside:PySem.W.kitOne K (.ref C_Outside) (.ref C_Outside)=some true)
  (k_Outside_BadWeights:PySem.W.kitOne K (.ref C_Outside) (.ref C_BadWeights)=some false)
  (k_Outside_BadClaim:PySem.W.kitOne K (.ref C_Outside) (.ref C_BadClaim)=some false)
  (k_Outside_BadWay:PySem.W.kitOne K (.ref C_Outside) (.ref C_BadWay)=some false)
  (k_Outside_ValueError:PySem.W.kitOne K (.ref C_Outside) (.type "ValueError")=some true)
  (k_Outside_Unlike:PySem.W.kitOne K (.ref C_Outside) (.ref C_Unlike)=some false)
  (k_Outside_TooMany:PySem.W.kitOne K (.ref C_Outside) (.ref C_TooMany)=some false)
  (k_Outside_NoText:PySem.W.kitOne K (.ref C_Outside) (.ref C_NoText)=some false)
  (k_Outside_NoFraction:PySem.W.kitOne K (.ref C_Outside) (.ref C_NoFraction)=some false)
  (k_Outside_NoBoat:PySem.W.kitOne K (.ref C_Outside) (.ref C_NoBoat)=some false)
  (k_Outside_BadLine:PySem.W.kitOne K (.ref C_Outside) (.ref C_BadLine)=some false)
  (k_Outside_BadCatch:PySem.W.kitOne K (.ref C_Outside) (.ref C_BadCatch)=some false):Et K mg:=by
 refine ⟨fun c hc=>?_,fun c l hl=>?_⟩
 ·simp only [tbT,List.contains_cons,List.contains_nil,Bool.or_false,Bool.or_eq_true,beq_iff_eq] at hc
  rcases hc with rfl | rfl | rfl | rfl
  ·exact ⟨C_BadWay,C_CatchError,PySem.W.mg_of X G n_BadWay,PySem.W.mg_of X G n_CatchError,(lL e1_BadWay e2_BadWay e3_BadWay e4_BadWay g5 g6 e7_BadWay e8_BadWay),vU ce1 ce2 ce3,em_BadWay⟩
  ·exact ⟨C_BadClaim,C_CatchError,PySem.W.mg_of X G n_BadClaim,PySem.W.mg_of X G n_CatchError,(lL e1_BadClaim e2_BadClaim e3_BadClaim e4_BadClaim g5 g6 e7_BadClaim e8_BadClaim),vU ce1 ce2 ce3,em_BadClaim⟩
  ·exact ⟨C_BadWeights,C_CatchError,PySem.W.mg_of X G n_BadWeights,PySem.W.mg_of X G n_CatchError,(lL e1_BadWeights e2_BadWeights e3_BadWeights e4_BadWeights g5 g6 e7_BadWeights e8_BadWeights),vU ce1 ce2 ce3,em_BadWeights⟩
  ·exact ⟨C_Outside,C_CatchError,PySem.W.mg_of X G n_Outside,PySem.W.mg_of X G n_CatchError,(lL e1_Outside e2_Outside e3_Outside e4_Outside g5 g6 e7_Outside e8_Outside),vU ce1 ce2 ce3,em_Outside⟩
 ·have hm:=pP hl
  simp only [yH,List.mem_cons,List.not_mem_nil,or_false,Prod.mk.injEq] at hm
  rcases hm with ⟨rfl,rfl⟩ | ⟨rfl,rfl⟩ | ⟨rfl,rfl⟩ | ⟨rfl,rfl⟩
  ·refine ⟨C_BadWay,PySem.W.mg_of X G n_BadWay,(lL e1_BadWay e2_BadWay e3_BadWay e4_BadWay g5 g6 e7_BadWay e8_BadWay),fun x hx=>?_⟩
   simp only [List.contains_cons,List.contains_nil,Bool.or_false,Bool.or_eq_true,beq_iff_eq] at hx
   rcases hx with rfl | rfl | rfl | rfl | rfl | rfl | rfl | rfl | rfl | rfl | rfl | rfl
   ·exact ⟨_,_,aI X G n_Outside,⟨_,.inl rfl⟩,k_BadWay_Outside⟩
   ·exact ⟨_,_,aI X G n_BadWeights,⟨_,.inl rfl⟩,k_BadWay_BadWeights⟩
   ·exact ⟨_,_,aI X G n_BadClaim,⟨_,.inl rfl⟩,k_BadWay_BadClaim⟩
   ·exact ⟨_,_,aI X G n_BadWay,⟨_,.inl rfl⟩,k_BadWay_BadWay⟩
   ·exact ⟨_,_,mU X G z_ValueError PyProof.Rows.Boot.«ValueError» (by decide),⟨0,.inr ⟨_,rfl⟩⟩,k_BadWay_ValueError⟩
   ·exact ⟨_,_,aI X G n_Unlike,⟨_,.inl rfl⟩,k_BadWay_Unlike⟩
   ·exact ⟨_,_,aI X G n_TooMany,⟨_,.inl rfl⟩,k_BadWay_TooMany⟩
   ·exact ⟨_,_,aI X G n_NoText,⟨_,.inl rfl⟩,k_BadWay_NoText⟩
   ·exact ⟨_,_,aI X G n_NoFraction,⟨_,.inl rfl⟩,k_BadWay_NoFraction⟩
   ·exact ⟨_,_,aI X G n_NoBoat,⟨_,.inl rfl⟩,k_BadWay_NoBoat⟩
   ·exact ⟨_,_,aI X G n_BadLine,⟨_,.inl rfl⟩,k_BadWay_BadLine⟩
   ·exact ⟨_,_,aI X G n_BadCatch,⟨_,.inl rfl⟩,k_BadWay_BadCatch⟩
  ·refine ⟨C_BadClaim,PySem.W.mg_of X G n_BadClaim,(lL e1_BadClaim e2_BadClaim e3_BadClaim e4_BadClaim g5 g6 e7_BadClaim e8_BadClaim),fun x hx=>?_⟩
   simp only [List.contains_cons,List.contains_nil,Bool.or_false,Bool.or_eq_true,beq_iff_eq] at hx
   rcases hx with rfl | rfl | rfl | rfl | rfl | rfl | rfl | rfl | rfl | rfl | rfl | rfl
   ·exact ⟨_,_,aI X G n_Outside,⟨_,.inl rfl⟩,k_BadClaim_Outside⟩
   ·exact ⟨_,_,aI X G n_BadWeights,⟨_,.inl rfl⟩,k_BadClaim_BadWeights⟩
   ·exact ⟨_,_,aI X G n_BadClaim,⟨_,.inl rfl⟩,k_BadClaim_BadClaim⟩
   ·exact ⟨_,_,aI X G n_BadWay,⟨_,.inl rfl⟩,k_BadClaim_BadWay⟩
   ·exact ⟨_,_,mU X G z_ValueError PyProof.Rows.Boot.«ValueError» (by decide),⟨0,.inr ⟨_,rfl⟩⟩,k_BadClaim_ValueError⟩
   ·exact ⟨_,_,aI X G n_Unlike,⟨_,.inl rfl⟩,k_BadClaim_Unlike⟩
   ·exact ⟨_,_,aI X G n_TooMany,⟨_,.inl rfl⟩,k_BadClaim_TooMany⟩
   ·exact ⟨_,_,aI X G n_NoText,⟨_,.inl rfl⟩,k_BadClaim_NoText⟩
   ·exact ⟨_,_,aI X G n_NoFraction,⟨_,.inl rfl⟩,k_BadClaim_NoFraction⟩
   ·exact ⟨_,_,aI X G n_NoBoat,⟨_,.inl rfl⟩,k_BadClaim_NoBoat⟩
   ·exact ⟨_,_,aI X G n_BadLine,⟨_,.inl rfl⟩,k_BadClaim_BadLine⟩
   ·exact ⟨_,_,aI X G n_BadCatch,⟨_,.inl rfl⟩,k_BadClaim_BadCatch⟩
  ·refine ⟨C_BadWeights,PySem.W.mg_of X G n_BadWeights,(lL e1_BadWeights e2_BadWeights e3_BadWeights e4_BadWeights g5 g6 e7_BadWeights e8_BadWeights),fun x hx=>?_⟩
   simp only [List.contains_cons,List.contains_nil,Bool.or_false,Bool.or_eq_true,beq_iff_eq] at hx
   rcases hx with rfl | rfl | rfl | rfl | rfl | rfl | rfl | rfl | rfl | rfl | rfl | rfl
   ·exact ⟨_,_,aI X G n_Outside,⟨_,.inl rfl⟩,k_BadWeights_Outside⟩
   ·exact ⟨_,_,aI X G n_BadWeights,⟨_,.inl rfl⟩,k_BadWeights_BadWeights⟩
   ·exact ⟨_,_,aI X G n_BadClaim,⟨_,.inl rfl⟩,k_BadWeights_BadClaim⟩
   ·exact ⟨_,_,aI X G n_BadWay,⟨_,.inl rfl⟩,k_BadWeights_BadWay⟩
   ·exact ⟨_,_,mU X G z_ValueError PyProof.Rows.Boot.«ValueError» (by decide),⟨0,.inr ⟨_,rfl⟩⟩,k_BadWeights_ValueError⟩
   ·exact ⟨_,_,aI X G n_Unlike,⟨_,.inl rfl⟩,k_BadWeights_Unlike⟩
   ·exact ⟨_,_,aI X G n_TooMany,⟨_,.inl rfl⟩,k_BadWeights_TooMany⟩
   ·exact ⟨_,_,aI X G n_NoText,⟨_,.inl rfl⟩,k_BadWeights_NoText⟩
   ·exact ⟨_,_,aI X G n_NoFraction,⟨_,.inl rfl⟩,k_BadWeights_NoFraction⟩
   ·exact ⟨_,_,aI X G n_NoBoat,⟨_,.inl rfl⟩,k_BadWeights_NoBoat⟩
   ·exact ⟨_,_,aI X G n_BadLine,⟨_,.inl rfl⟩,k_BadWeights_BadLine⟩
   ·exact ⟨_,_,aI X G n_BadCatch,⟨_,.inl rfl⟩,k_BadWeights_BadCatch⟩
  ·refine ⟨C_Outside,PySem.W.mg_of X G n_Outside,(lL e1_Outside e2_Outside e3_Outside e4_Outside g5 g6 e7_Outside e8_Outside),fun x hx=>?_⟩
   simp only [List.contains_cons,List.contains_nil,Bool.or_false,Bool.or_eq_true,beq_iff_eq] at hx
   rcases hx with rfl | rfl | rfl | rfl | rfl | rfl | rfl | rfl | rfl | rfl | rfl | rfl
   ·exact ⟨_,_,aI X G n_Outside,⟨_,.inl rfl⟩,k_Outside_Outside⟩
   ·exact ⟨_,_,aI X G n_BadWeights,⟨_,.inl rfl⟩,k_Outside_BadWeights⟩
   ·exact ⟨_,_,aI X G n_BadClaim,⟨_,.inl rfl⟩,k_Outside_BadClaim⟩
   ·exact ⟨_,_,aI X G n_BadWay,⟨_,.inl rfl⟩,k_Outside_BadWay⟩
   ·exact ⟨_,_,mU X G z_ValueError PyProof.Rows.Boot.«ValueError» (by decide),⟨0,.inr ⟨_,rfl⟩⟩,k_Outside_ValueError⟩
   ·exact ⟨_,_,aI X G n_Unlike,⟨_,.inl rfl⟩,k_Outside_Unlike⟩
   ·exact ⟨_,_,aI X G n_TooMany,⟨_,.inl rfl⟩,k_Outside_TooMany⟩
   ·exact ⟨_,_,aI X G n_NoText,⟨_,.inl rfl⟩,k_Outside_NoText⟩
   ·exact ⟨_,_,aI X G n_NoFraction,⟨_,.inl rfl⟩,k_Outside_NoFraction⟩
   ·exact ⟨_,_,aI X G n_NoBoat,⟨_,.inl rfl⟩,k_Outside_NoBoat⟩
   ·exact ⟨_,_,aI X G n_BadLine,⟨_,.inl rfl⟩,k_Outside_BadLine⟩
   ·exact ⟨_,_,aI X G n_BadCatch,⟨_,.inl rfl⟩,k_Outside_BadCatch⟩
section
variable {P:Program} {w:World} {K:PySem.W.Frag} {mg:Str->Option Value} {base:Heap} {k:Nat} {f:Addr} {fd:FuncData}
theorem lE (F:Fn K mg "common_divisor" eG ["one", "two"] f fd) (B:Bt mg) (KT:Kt K) (C:Ct K mg) (R:Rt K mg) (ET:Et K mg)  : CanM P w K mg base (k+1) "common_divisor" ["one", "two"] cM:=
  jH F bP fun W WR=>(aC (s_z 0 bP.nd (bD mQ vQ rfl B.abs boot_abs (dB 0)))
 (aC (s_z 1 bP.nd (bD mQ vQ rfl B.abs boot_abs (dB 1)))
 (aC (zAD W.own (tst (neA W.u) zAC (aS 1) aW (aU _)) (aC (s_z 2 bP.nd (aM aY cT (aS 0) (aS 1)))
 (aC (s_z 0 bP.nd (aS 1))
 (aJ (s_z 1 bP.nd (aS 2))))))
 (aJ (dP (aS 0))))))
theorem zCo (F:Fn K mg "whole" vH ["number"] f fd) (B:Bt mg) (KT:Kt K) (C:Ct K mg) (R:Rt K mg) (ET:Et K mg)  : CanM P w K mg base (k+1) "whole" ["number"] cB:=
 jH F zCr fun W WR=>(aJ (dP (nX (aA (aS 0) (aA aW aN aT) aF))))
theorem zFi (F:Fn K mg "less" zBd ["one", "two"] f fd) (B:Bt mg) (KT:Kt K) (C:Ct K mg) (R:Rt K mg) (ET:Et K mg)  : CanM P w K mg base (k+1) "less" ["one", "two"] hG:=
 jH F zEt fun W WR=>(aJ (dP (lO sN zDk (aM cU iL (iF 0) (iF 1)) (aM cU iL (iF 1) (iF 0)) (aU _))))
theorem zAv:RankDef eJ:=⟨rfl,rfl,rfl,rfl,rfl,fun _ _ _=>⟨_,_,rfl,rfl,rfl⟩⟩
theorem yP (F:Fn K mg "ranked" eJ ["some"] f fd) (B:Bt mg) (KT:Kt K) (C:Ct K mg) (R:Rt K mg) (ET:Et K mg) {T:Addr} (hT:jZ K mg T) (hB:BMn base mg):CanR P w K mg base (k+1) iG:=
 zFz F jP zAv hT hB B.sorted B.range B.len rfl fun cdv A outer s H E G W WR=>⟨(s_z 1 jP.nd aW),(xJ W.own W.calm (xU (aS 0)) (g_z 2 jP.nd) gE (aJ (s_z 1 jP.nd (aM cU iL (aS 1) (iF 2)))))⟩
theorem qU (F:Fn K mg "refuse_way" gT ["way"] f fd) (B:Bt mg) (KT:Kt K) (C:Ct K mg) (R:Rt K mg) (ET:Et K mg)  : CanM P w K mg base (k+1) "refuse_way" ["way"] bV:=
 jH F qW fun W WR=>(aJ (iM (zCk C.CONTRARY.choose_spec rfl (aS 0) (by with_unfolding_all rfl)) (aJ (iW W WR R.BadWay rfl yG)) bL))
theorem mF (F:Fn K mg "refuse_claims" eQ ["claims"] f fd) (B:Bt mg) (KT:Kt K) (C:Ct K mg) (R:Rt K mg) (ET:Et K mg)  : CanM P w K mg base (k+1) "refuse_claims" ["claims"] bS:=
  jH F gK fun W WR=>(aC (iM (tst (eqA W.u) kT (bD bF iA rfl B.len PySem.boot_len (dB 0)) aW (aU _)) (aJ (iW W WR R.BadClaim rfl yG)) bL)
 (aJ (xJ W.own W.calm (xU (aS 0)) (g_z 1 gK.nd) gE (aJ (iM (tst sN zDk (aS 1) aW (aU _)) (aJ (iW W WR R.BadClaim rfl yG)) bL)))))
theorem lB (F:Fn K mg "refuse_weights" eH ["way", "weights", "many"] f fd) (B:Bt mg) (KT:Kt K) (C:Ct K mg) (R:Rt K mg) (ET:Et K mg)  : CanM P w K mg base (k+1) "refuse_weights" ["way", "weights", "many"] aZ:=
  jH F dQ fun W WR=>(aC (s_z 3 dQ.nd (zGe (tst (inA W.u) zKd (aS 0) (nL rfl C.WEIGHTED) (by with_unfolding_all rfl)) (aS 2) aW))
 (aC (iM (tst (neA W.u) zAC (bD bF iA rfl B.len PySem.boot_len (dB 1)) (aS 3) (aU _)) (aJ (iW W WR R.BadWeights rfl yG)) bL)
 (aJ (xJ W.own W.calm (xU (aS 1)) (g_z 4 dQ.nd) gE (aJ (iM (PWd.pt (zFv (tst sN zDk (aS 4) aW (aU _)) (zAx (tst zCd zHU (aS 4) (aM cX gU aW aW) (aU _))))) (aJ (iW W WR R.BadWeights rfl yG)) bL))))))
theorem oU (F:Fn K mg "_law_cell_at" fW ["script", "k"] f fd) (B:Bt mg) (KT:Kt K) (C:Ct K mg) (R:Rt K mg) (ET:Et K mg)  : CanM P w K mg base (k+1) "_law_cell_at" ["script", "k"] bB:=
  jH F pG fun W WR=>(aC (iM (tst sN zDk (aS 1) (bD bF iA rfl B.len PySem.boot_len (dB 0)) (aU _)) (aJ (dP (zHK (aS 0) 1))) bL)
 (aJ (dP aW)))
theorem nO (F:Fn K mg "_law_fraction" fH ["top", "bottom"] f fd) (B:Bt mg) (KT:Kt K) (C:Ct K mg) (R:Rt K mg) (ET:Et K mg)  : CanM P w K mg base (k+1) "_law_fraction" ["top", "bottom"] bN:=
  jH F cC fun W WR=>(aC (s_z 2 cC.nd (bD mQ vQ rfl B.abs boot_abs (dB 0)))
 (aC (s_z 3 cC.nd (aS 1))
 (aC (zAD W.own (tst zCd zHU (aS 3) aW (aU _)) (aC (s_z 4 cC.nd (aM aY cT (aS 2) (aS 3)))
 (aC (s_z 2 cC.nd (aS 3))
 (aJ (s_z 3 cC.nd (aS 4))))))
 (aC (iM (tst (eqA W.u) kT (aS 2) aW (aU _)) (aJ (dP (nX (aA aW (aA aW aN aT) aT)))) bL)
 (aJ (dP (nX (aA (aM bM eS (aS 0) (aS 2)) (aA (aM bM eS (aS 1) (aS 2)) aN aX) aX))))))))
theorem yD (F:Fn K mg "_law_way" nM ["cell"] f fd) (B:Bt mg) (KT:Kt K) (C:Ct K mg) (R:Rt K mg) (ET:Et K mg)  : CanM P w K mg base (k+1) "_law_way" ["cell"] gP:=
  jH F xK fun W WR=>(aC (iM (tst (eqA W.u) kT (aM aY cT (aS 0) aW) aW (aU _)) (aJ (dP (jY cS wD (PEf.d (bT (aA (fO bH fun _=>.str _) (aA (fO bH fun _=>.str _) (aA (fO bH fun _=>.str _) (aA (fO bH fun _=>.str _) (aA (fO bH fun _=>.str _) (aA (fO bH fun _=>.str _) (aA (fO bH fun _=>.str _) yG aT) aT) aT) aT) aT) aT) aT))) (aM aY cT (aM bM eS (aS 0) aW) aW) (fun _ _=>rfl)))) bL)
 (aJ (dP (jY cS wD (PEf.d (bT (aA (fO bH fun _=>.str _) (aA (fO bH fun _=>.str _) (aA (fO bH fun _=>.str _) (aA (fO bH fun _=>.str _) (aA (fO bH fun _=>.str _) yG aT) aT) aT) aT) aT))) (aM aY cT (aM bM eS (aS 0) aW) aW) (fun _ _=>rfl)))))
theorem xW (F:Fn K mg "_law_due" mZ ["way", "weights", "claims"] f fd) (B:Bt mg) (KT:Kt K) (C:Ct K mg) (R:Rt K mg) (ET:Et K mg)  : CanM P w K mg base (k+1) "_law_due" ["way", "weights", "claims"] cJ:=
  jH F xH fun W WR=>(aC (iM (tst (zDd W.u) zBq (aS 0) (PEf.d (bT (aA (fO bH fun _=>.str _) (aA (fO bH fun _=>.str _) (aA (fO bH fun _=>.str _) (aA (fO bH fun _=>.str _) (aA (fO bH fun _=>.str _) yG aT) aT) aT) aT) aT))) (by with_unfolding_all rfl)) (aJ (dP aW)) bL)
 (aC (iM (PWd.pt (zFv (tst (eqA W.u) kT (aS 2) (PEf.d (bT aN)) (aU _)) (zAx (tst sN zDk (bD (rR W.calm) zV rfl B.min boot_min (dB 2)) aW (aU _))))) (aJ (dP aW)) bL)
 (aC (iM (PWd.pt (zAK (tst (neA W.u) zAC (aS 0) (fO bH fun _=>.str _) (aU _)) (sG (tst (neA W.u) zAC (aS 0) (fO bH fun _=>.str _) (aU _))))) (aJ (dP (jY cS wD (PEf.d (bT (aA aW (aA aW aN aT) aT))) (oH tU zDx rfl B.int boot_int (aA (lO (eqA W.u) kT (aS 1) (PEf.d (bT aN)) (aU _)) aN)) (fun _ _=>rfl)))) bL)
 (aC (iM (PWd.pt (zFv (tst (neA W.u) zAC (bD bF iA rfl B.len PySem.boot_len (dB 1)) (bD bF iA rfl B.len PySem.boot_len (dB 2)) (aU _)) (zFv (tst sN zDk (bD (rR W.calm) zV rfl B.min boot_min (dB 1)) aW (aU _)) (zAx (tst zCd zHU (bD (zAH W.calm) zFf rfl B.max boot_max (dB 1)) (aM cX gU aW aW) (aU _)))))) (aJ (dP aW)) bL)
 (aJ (dP aW))))))
theorem zDK (F:Fn K mg "made" zBH ["top", "bottom"] f fd) (B:Bt mg) (KT:Kt K) (C:Ct K mg) (R:Rt K mg) (ET:Et K mg) (c_common_divisor:CanM P w K mg base k "common_divisor" ["one", "two"] cM):CanM P w K mg base (k+1) "made" ["top", "bottom"] eR:=
  jH F vF fun W WR=>(aC (iM (tst (eqA W.u) kT (aS 1) aW (aU _)) (aJ (iW W WR R.NoFraction rfl yG)) bL)
 (aC (s_z 2 vF.nd (aK W c_common_divisor rfl (aA (aS 0) (dB 1) aF)))
 (aC (iM (tst sN zDk (aS 1) aW (aU _)) (aJ (s_z 2 vF.nd (pL (aS 2)))) bL)
 (aJ (dP (nX (aA (aM bM eS (aS 0) (aS 2)) (aA (aM bM eS (aS 1) (aS 2)) aN aX) aX)))))))
theorem zAg (F:Fn K mg "lesser" qF ["one", "two"] f fd) (B:Bt mg) (KT:Kt K) (C:Ct K mg) (R:Rt K mg) (ET:Et K mg) (c_less:CanM P w K mg base k "less" ["one", "two"] hG):CanM P w K mg base (k+1) "lesser" ["one", "two"] fX:=
 jH F zAb fun W WR=>(aJ (dP (zGe (zHb (aK W c_less rfl (aA (aS 0) (dB 1) aF))) (aS 0) (aS 1))))
theorem qS (F:Fn K mg "is_outside" gZ ["amount", "most"] f fd) (B:Bt mg) (KT:Kt K) (C:Ct K mg) (R:Rt K mg) (ET:Et K mg) (c_less:CanM P w K mg base k "less" ["one", "two"] hG):CanM P w K mg base (k+1) "is_outside" ["amount", "most"] cW:=
 jH F rE fun W WR=>(aJ (dP (zHc (aK W c_less rfl (aA (aS 0) (aA (nL rfl C.NOUGHT) aN aF) aF)) (zDt (aK W c_less rfl (aA (aS 1) (dB 0) aF))))))
theorem yZ (F:Fn K mg "looked" qD ["way", "weights", "claims"] f fd) (B:Bt mg) (KT:Kt K) (C:Ct K mg) (R:Rt K mg) (ET:Et K mg) (c_refuse_way:CanM P w K mg base k "refuse_way" ["way"] bV) (c_refuse_claims:CanM P w K mg base k "refuse_claims" ["claims"] bS) (c_refuse_weights:CanM P w K mg base k "refuse_weights" ["way", "weights", "many"] aZ):CanM P w K mg base (k+1) "looked" ["way", "weights", "claims"] bX:=
  jH F zAd fun W WR=>(aC (pU (aK W c_refuse_way rfl (dB 0)))
 (aC (pU (aK W c_refuse_claims rfl (dB 2)))
 (aJ (pU (aK W c_refuse_weights rfl (aA (aS 0) (aA (aS 1) (aA (bD bF iA rfl B.len PySem.boot_len (dB 2)) aN aV) aF) aF))))))
theorem nJ (F:Fn K mg "contrary_way" fK ["way"] f fd) (B:Bt mg) (KT:Kt K) (C:Ct K mg) (R:Rt K mg) (ET:Et K mg) (c_refuse_way:CanM P w K mg base k "refuse_way" ["way"] bV):CanM P w K mg base (k+1) "contrary_way" ["way"] bO:=
  jH F nT fun W WR=>(aC (pU (aK W c_refuse_way rfl (dB 0)))
 (aJ (dP (zDa C.CONTRARY.choose_spec rfl (aS 0) (fun _ _=>rfl)))))
theorem qX (F:Fn K mg "_law_claims" hU ["script", "cell"] f fd) (B:Bt mg) (KT:Kt K) (C:Ct K mg) (R:Rt K mg) (ET:Et K mg) (c_law_cell_at:CanM P w K mg base k "_law_cell_at" ["script", "k"] bB):CanM P w K mg base (k+1) "_law_claims" ["script", "cell"] dZ:=
  jH F cZ fun W WR=>(aC (s_z 2 cZ.nd (aM eV nU aW (aM aY cT (aS 1) aW)))
 (aC (zAu (i:=3) cZ.nd rfl (Or.inl rfl) (bT aN))
 (aC (xJ W.own W.calm (zCY rfl B.range (dB 2)) (g_z 4 cZ.nd) gE (aC (s_z 5 cZ.nd (aM aY cT (aK W c_law_cell_at rfl (aA (aS 0) (aA (aM eV nU aW (aS 4)) aN aX) aF)) (aM cX gU aW aW)))
 (aJ (zFd (i:=3) (pv 3) (aM aY cT (aM bM eS (aS 5) aW) (jY cS wD (PEf.d (bT (aA aW (aA (aM cX gU aW aW) aN aX) aT))) (aM aY cT (aS 5) aW) (fun _ _=>rfl)))))))
 (aC (iM (tst (eqA W.u) kT (aM aY cT (aM bM eS (aS 1) aW) aW) aW (aU _)) (aJ (zEa (i:=3) (pv 3) (aM aY cT (aM bM eS (aS 1) aW) (aS 2)) (aM vV zCu (pL aW) (aM aY cT (aM bM eS (aS 1) aW) (jY cS wD (PEf.d (bT (aA aW (aA (aM cX gU aW aW) aN aX) aT))) (aM aY cT (aM bM eS (aS 1) aW) aW) (fun _ _=>rfl)))))) bL)
 (aC (iM (tst (eqA W.u) kT (aM aY cT (aM bM eS (aS 1) aW) aW) aW (aU _)) (aJ (zAu (i:=3) cZ.nd rfl (Or.inl rfl) (bT aN))) bL)
 (aJ (qI 3 (pv 3))))))))
theorem pH (F:Fn K mg "_law_weights" gA ["script", "cell", "way", "many"] f fd) (B:Bt mg) (KT:Kt K) (C:Ct K mg) (R:Rt K mg) (ET:Et K mg) (c_law_cell_at:CanM P w K mg base k "_law_cell_at" ["script", "k"] bB):CanM P w K mg base (k+1) "_law_weights" ["script", "cell", "way", "many"] cY:=
  jH F cP fun W WR=>(aC (zAu (i:=4) cP.nd rfl (Or.inl rfl) (bT aN))
 (aC (iM (tst (neA W.u) zAC (zHc (lO (eqA W.u) kT (aS 2) (fO bH fun _=>.str _) (aU _)) (zDt (lO (eqA W.u) kT (aS 2) (fO bH fun _=>.str _) (aU _)))) (lO (eqA W.u) kT (aM aY cT (aS 1) aW) aW (aU _)) (aU _)) (aJ (xJ W.own W.calm (zCY rfl B.range (dB 3)) (g_z 5 cP.nd) gE (aC (s_z 6 cP.nd (aM aY cT (aK W c_law_cell_at rfl (aA (aS 0) (aA (aM eV nU aW (aS 5)) aN aX) aF)) (aM cX gU aW aW)))
 (aJ (zFd (i:=4) (pv 4) (aM eV nU aW (aM aY cT (aM bM eS (aS 6) aW) (jY cS wD (PEf.d (bT (aA aW (aA (aM cX gU aW aW) aN aX) aT))) (aM aY cT (aS 6) aW) (fun _ _=>rfl))))))))) bL)
 (aC (iM (PTd.frz (PWd.pt (zAK (tst (neA W.u) zAC (aS 4) (PEf.d (bT aN)) (aU _)) (sG (tst (eqA W.u) kT (aM aY cT (aS 1) aW) aW (aU _)))))) (aC (s_z 7 cP.nd (PEf.d (bT (aA aW (aA (aM vV zCu (pL aW) (aM aY cT (aM bM eS (aS 1) aW) (aM cX gU aW aW))) (aA (aM eV nU (aM cX gU aW aW) aW) (aA (aM eV nU (aM eV nU (aM cX gU aW aW) (aM aY cT (aM bM eS (aS 1) aW) (aM cX gU aW aW))) aW) aN aX) aX) aX) aT))))
 (aJ (zEa (i:=4) (pv 4) (PEd.frz (aM aY cT (aM bM eS (aS 1) aW) (bD bF iA rfl B.len PySem.boot_len (dB 4)))) (jY cS wD (aS 7) (aM aY cT (aM bM eS (aS 1) aW) aW) (fun _ _=>rfl))))) bL)
 (aC (iM (tst (eqA W.u) kT (aM aY cT (aS 1) aW) aW (aU _)) (cI.frzAt 4 (aJ (s_z 4 cP.nd (jY cS wD (PEf.d (bT (aA (PEf.d (zCm (aS 4) (zFs aW) zFA)) (aA (PEf.d (zHG (aS 4) (PEf.d (bT (aA aW aN aT))))) aN aX) dW))) (aM aY cT (aM bM eS (aS 1) aW) aW) (fun _ _=>rfl))))) bL)
 (aJ (zBZ 4 (pv 4)))))))
theorem zEK (F:Fn K mg "plus" yK ["one", "two"] f fd) (B:Bt mg) (KT:Kt K) (C:Ct K mg) (R:Rt K mg) (ET:Et K mg) (c_made:CanM P w K mg base k "made" ["top", "bottom"] eR):CanM P w K mg base (k+1) "plus" ["one", "two"] lM:=
 jH F zEE fun W WR=>(aJ (dP (aK W c_made rfl (aA (aM eV nU (aM cU iL (iF 0) (iF 1)) (aM cU iL (iF 1) (iF 0))) (aA (aM cU iL (iF 0) (iF 1)) aN aX) aX))))
theorem zCS (F:Fn K mg "minus" uL ["one", "two"] f fd) (B:Bt mg) (KT:Kt K) (C:Ct K mg) (R:Rt K mg) (ET:Et K mg) (c_made:CanM P w K mg base k "made" ["top", "bottom"] eR):CanM P w K mg base (k+1) "minus" ["one", "two"] eP:=
 jH F zCN fun W WR=>(aJ (dP (aK W c_made rfl (aA (aM vV zCu (aM cU iL (iF 0) (iF 1)) (aM cU iL (iF 1) (iF 0))) (aA (aM cU iL (iF 0) (iF 1)) aN aX) aX))))
theorem zBW (F:Fn K mg "times" vJ ["one", "two"] f fd) (B:Bt mg) (KT:Kt K) (C:Ct K mg) (R:Rt K mg) (ET:Et K mg) (c_made:CanM P w K mg base k "made" ["top", "bottom"] eR):CanM P w K mg base (k+1) "times" ["one", "two"] fV:=
 jH F zCx fun W WR=>(aJ (dP (aK W c_made rfl (aA (aM cU iL (iF 0) (iF 1)) (aA (aM cU iL (iF 0) (iF 1)) aN aX) aX))))
theorem zEi (F:Fn K mg "over" zAo ["one", "two"] f fd) (B:Bt mg) (KT:Kt K) (C:Ct K mg) (R:Rt K mg) (ET:Et K mg) (c_made:CanM P w K mg base k "made" ["top", "bottom"] eR):CanM P w K mg base (k+1) "over" ["one", "two"] nE:=
 jH F zFw fun W WR=>(aJ (dP (aK W c_made rfl (aA (aM cU iL (iF 0) (iF 1)) (aA (aM cU iL (iF 0) (iF 1)) aN aX) aX))))
theorem kW (F:Fn K mg "refuse_outside" eE ["amount", "most"] f fd) (B:Bt mg) (KT:Kt K) (C:Ct K mg) (R:Rt K mg) (ET:Et K mg) (c_is_outside:CanM P w K mg base k "is_outside" ["amount", "most"] cW):CanM P w K mg base (k+1) "refuse_outside" ["amount", "most"] bJ:=
 jH F kR fun W WR=>(aJ (iM (zHb (aK W c_is_outside rfl (aA (aS 0) (dB 1) aF))) (aJ (iW W WR R.Outside rfl yG)) bL))
theorem rW (F:Fn K mg "levels_of" gF ["weights", "claims"] f fd) (B:Bt mg) (KT:Kt K) (C:Ct K mg) (R:Rt K mg) (ET:Et K mg) (c_made:CanM P w K mg base k "made" ["top", "bottom"] eR):CanM P w K mg base (k+1) "levels_of" ["weights", "claims"] dO:=
 jH F tV fun W WR=>(aJ (iO (rZ (N:=["weights", "claims"]) W (by decide +kernel) rfl (sc:=aD gF) rfl rfl (by decide +kernel) (zGL rfl B.zip (aA (aS 1) (dB 0) aF)) (fun C2 s2 H2 fp2 G W=>(aK W c_made rfl (aA (aS 2) (dB 3) aF))))))
theorem sZ (F:Fn K mg "row_dealt" iU ["claims", "catch"] f fd) (B:Bt mg) (KT:Kt K) (C:Ct K mg) (R:Rt K mg) (ET:Et K mg) (c_lesser:CanM P w K mg base k "lesser" ["one", "two"] fX) (c_minus:CanM P w K mg base k "minus" ["one", "two"] eP) (c_whole:CanM P w K mg base k "whole" ["number"] cB):CanM P w K mg base (k+1) "row_dealt" ["claims", "catch"] dS:=
  jH F dF fun W WR=>(aC (s_z 2 dF.nd (aS 1))
 (aC (zAu (i:=3) dF.nd rfl (Or.inl rfl) (bT aN))
 (aC (xJ W.own W.calm (xU (aS 0)) (g_z 4 dF.nd) gE (aC (s_z 5 dF.nd (aK W c_lesser rfl (aA (aS 2) (aA (aK W c_whole rfl (dB 4)) aN aV) aF)))
 (aC (zFd (i:=3) (pv 3) (aS 5))
 (aJ (s_z 2 dF.nd (aK W c_minus rfl (aA (aS 2) (dB 5) aF)))))))
 (aJ (qI 3 (pv 3))))))
theorem qQ (F:Fn K mg "even_dealt" gY ["weights", "claims", "catch"] f fd) (B:Bt mg) (KT:Kt K) (C:Ct K mg) (R:Rt K mg) (ET:Et K mg) (c_ranked:CanR P w K mg base k iG) (c_levels_of:CanM P w K mg base k "levels_of" ["weights", "claims"] dO) (c_over:CanM P w K mg base k "over" ["one", "two"] nE) (c_lesser:CanM P w K mg base k "lesser" ["one", "two"] fX) (c_minus:CanM P w K mg base k "minus" ["one", "two"] eP) (c_times:CanM P w K mg base k "times" ["one", "two"] fV) (c_whole:CanM P w K mg base k "whole" ["number"] cB):CanM P w K mg base (k+1) "even_dealt" ["weights", "claims", "catch"] cE:=
  jH F bW fun W WR=>(aC (s_z 3 bW.nd (aS 2))
 (aC (s_z 4 bW.nd (bD (kP W.calm) tM rfl B.sum fR (dB 0)))
 (aC (zAu (i:=5) bW.nd rfl (Or.inl rfl) (zBi (bT (aA (nL rfl C.NOUGHT) aN aF)) (bD bF iA rfl B.len PySem.boot_len (dB 1))))
 (zEg W c_ranked zIG zGP rfl (aA (PEf.d (gB W c_levels_of rfl (aA (aS 0) (dB 1) aF))) aN aV) (g_z 6 bW.nd) gE (aC (s_z 7 bW.nd (aK W c_over rfl (aA (aK W c_times rfl (aA (aS 3) (aA (aK W c_whole rfl (aA (zHK (aS 0) 6) aN dW)) aN aV) aF)) (aA (aK W c_whole rfl (dB 4)) aN aV) aV)))
 (aC (zEa (i:=5) (pv 5) (aS 6) (aK W c_lesser rfl (aA (aS 7) (aA (aK W c_whole rfl (aA (zHK (aS 1) 6) aN dW)) aN aV) aF)))
 (aC (s_z 3 bW.nd (PEd.frz (aK W c_minus rfl (aA (aS 3) (aA (zHK (aS 5) 6) aN dW) aF))))
 (aJ (zIg (i:=4) bW.nd rfl (Or.inl rfl) (zHK (aS 0) 6) zHm zFC zCT))))) (aJ (qI 5 (pv 5)))))))
theorem rG (F:Fn K mg "part_dealt" fF ["claims", "catch"] f fd) (B:Bt mg) (KT:Kt K) (C:Ct K mg) (R:Rt K mg) (ET:Et K mg) (c_over:CanM P w K mg base k "over" ["one", "two"] nE) (c_whole:CanM P w K mg base k "whole" ["number"] cB) (c_times:CanM P w K mg base k "times" ["one", "two"] fV):CanM P w K mg base (k+1) "part_dealt" ["claims", "catch"] dH:=
  jH F eM fun W WR=>(aC (s_z 2 eM.nd (bD (kP W.calm) tM rfl B.sum fR (dB 0)))
 (aC (iM (tst (eqA W.u) kT (aS 2) aW (aU _)) (aJ (iO (zBi (bT (aA (nL rfl C.NOUGHT) aN aF)) (bD bF iA rfl B.len PySem.boot_len (dB 0))))) bL)
 (aC (s_z 3 eM.nd (aK W c_over rfl (aA (aS 1) (aA (aK W c_whole rfl (dB 2)) aN aV) aF)))
 (aJ (iO (wV W eM.nd rfl (sc:=aD fF) rfl rfl (by decide +kernel) (xU (aS 0)) (fun C2 s2 H2 fp2 G W=>⟨zBD,(aK W c_times rfl (aA (aS 3) (aA (aK W c_whole rfl (dB 4)) aN aV) aF))⟩)))))))
theorem qP (F:Fn K mg "half_dealt" eZ ["claims", "catch"] f fd) (B:Bt mg) (KT:Kt K) (C:Ct K mg) (R:Rt K mg) (ET:Et K mg) (c_times:CanM P w K mg base k "times" ["one", "two"] fV) (c_even_dealt:CanM P w K mg base k "even_dealt" ["weights", "claims", "catch"] cE) (c_plus:CanM P w K mg base k "plus" ["one", "two"] lM):CanM P w K mg base (k+1) "half_dealt" ["claims", "catch"] dG:=
  jH F gC fun W WR=>(aC (s_z 2 gC.nd (PEf.d (zBi (bT (aA aW aN aT)) (bD bF iA rfl B.len PySem.boot_len (dB 0)))))
 (aJ (iO (wV W gC.nd rfl (sc:=aD eZ) rfl rfl (by decide +kernel) (xU (PEf.d (gB W c_even_dealt rfl (aA (aS 2) (aA (aS 0) (aA (aK W c_plus rfl (aA (aS 1) (dB 1) aF)) aN aV) aF) aF)))) (fun C2 s2 H2 fp2 G W=>⟨zBD,(aK W c_times rfl (aA (aS 3) (aA (nL rfl C.HALF) aN aF) aF))⟩)))))
theorem lW {r:Mir} (F:Fn K mg "rightly_dealt" cV ["way", "weights", "claims", "catch"] f fd) (B:Bt mg) (KT:Kt K) (C:Ct K mg) (R:Rt K mg) (ET:Et K mg) (c_whole:CanM P w K mg base k "whole" ["number"] cB) (c_row_dealt:CanM P w K mg base k "row_dealt" ["claims", "catch"] dS) (c_even_dealt:CanM P w K mg base k "even_dealt" ["weights", "claims", "catch"] cE) (c_part_dealt:CanM P w K mg base k "part_dealt" ["claims", "catch"] dH) (c_half_dealt:CanM P w K mg base k "half_dealt" ["claims", "catch"] dG) (c_minus:CanM P w K mg base k "minus" ["one", "two"] eP) (c_less:CanM P w K mg base k "less" ["one", "two"] hG) (c_plus:CanM P w K mg base k "plus" ["one", "two"] lM) (c_rightly_dealt:CanM P w K mg base k "rightly_dealt" ["way", "weights", "claims", "catch"] r):CanM P w K mg base (k+1) "rightly_dealt" ["way", "weights", "claims", "catch"] (aP r):=
  jH F dC fun W WR=>(aC (s_z 4 dC.nd (aK W c_whole rfl (aA (bD (kP W.calm) tM rfl B.sum fR (dB 2)) aN aV)))
 (aC (iM (tst (eqA W.u) kT (aS 0) (fO bH fun _=>.str _) (aU _)) (aJ (iO (gB W c_row_dealt rfl (aA (aS 2) (dB 3) aF)))) bL)
 (aC (iM (tst (eqA W.u) kT (aS 0) (fO bH fun _=>.str _) (aU _)) (aJ (iO (gB W c_even_dealt rfl (aA (aS 1) (aA (aS 2) (dB 3) aF) aF)))) bL)
 (aC (iM (tst (eqA W.u) kT (aS 0) (fO bH fun _=>.str _) (aU _)) (aJ (iO (gB W c_part_dealt rfl (aA (aS 2) (dB 3) aF)))) bL)
 (aC (iM (PWd.pt (zAK (tst (eqA W.u) kT (aS 0) (fO bH fun _=>.str _) (aU _)) (sG (zKc (zHb (aK W c_less rfl (aA (aS 4) (aA (aK W c_plus rfl (aA (aS 3) (dB 3) aF)) aN aV) aF))))))) (aJ (iO (gB W c_half_dealt rfl (aA (aS 2) (dB 3) aF)))) bL)
 (aC (s_z 5 dC.nd (PEf.d (gB W c_rightly_dealt rfl (aA (zDa C.CONTRARY.choose_spec rfl (aS 0) (fun _ _=>rfl)) (aA (aS 1) (aA (aS 2) (aA (aK W c_minus rfl (aA (aS 4) (dB 3) aF)) aN aV) aF) aF) dW))))
 (aJ (iO (rZ (N:=["way", "weights", "claims", "catch", "most", "lacking"]) W (by decide +kernel) rfl (sc:=aD cV) rfl rfl (by decide +kernel) (zGL rfl B.zip (aA (aS 2) (dB 5) aF)) (fun C2 s2 H2 fp2 G W=>(aK W c_minus rfl (aA (aK W c_whole rfl (dB 6)) (dB 7) aV))))))))))))
theorem gH (F:Fn K mg "rightly_dealt" cV ["way", "weights", "claims", "catch"] f fd) (B:Bt mg) (KT:Kt K) (C:Ct K mg) (R:Rt K mg) (ET:Et K mg) (c_whole:CanM P w K mg base k "whole" ["number"] cB) (c_row_dealt:CanM P w K mg base k "row_dealt" ["claims", "catch"] dS) (c_even_dealt:CanM P w K mg base k "even_dealt" ["weights", "claims", "catch"] cE) (c_part_dealt:CanM P w K mg base k "part_dealt" ["claims", "catch"] dH) (c_half_dealt:CanM P w K mg base k "half_dealt" ["claims", "catch"] dG) (c_minus:CanM P w K mg base k "minus" ["one", "two"] eP) (c_less:CanM P w K mg base k "less" ["one", "two"] hG) (c_plus:CanM P w K mg base k "plus" ["one", "two"] lM):∀ n:Nat,CanM P w K mg base (k+1+n) "rightly_dealt" ["way", "weights", "claims", "catch"] (aG n)
 | 0=>zAV F dC fun cdv A outer s H E G W WR=>zID
 | n+1=>lW (k:=k+1+n) F B KT C R ET (c_whole:=c_whole.mono (by omega)) (c_row_dealt:=c_row_dealt.mono (by omega)) (c_even_dealt:=c_even_dealt.mono (by omega)) (c_part_dealt:=c_part_dealt.mono (by omega)) (c_half_dealt:=c_half_dealt.mono (by omega)) (c_minus:=c_minus.mono (by omega)) (c_less:=c_less.mono (by omega)) (c_plus:=c_plus.mono (by omega)) (c_rightly_dealt:=gH F B KT C R ET (c_whole:=c_whole) (c_row_dealt:=c_row_dealt) (c_even_dealt:=c_even_dealt) (c_part_dealt:=c_part_dealt) (c_half_dealt:=c_half_dealt) (c_minus:=c_minus) (c_less:=c_less) (c_plus:=c_plus) n)
theorem zCq (F:Fn K mg "dealt" vB ["way", "weights", "claims", "catch"] f fd) (B:Bt mg) (KT:Kt K) (C:Ct K mg) (R:Rt K mg) (ET:Et K mg) (c_looked:CanM P w K mg base k "looked" ["way", "weights", "claims"] bX) (c_refuse_outside:CanM P w K mg base k "refuse_outside" ["amount", "most"] bJ) (c_rightly_dealt:CanM P w K mg base k "rightly_dealt" ["way", "weights", "claims", "catch"] (aG 2)) (c_whole:CanM P w K mg base k "whole" ["number"] cB):CanM P w K mg base (k+1) "dealt" ["way", "weights", "claims", "catch"] eD:=
  jH F zCp fun W WR=>(aC (pU (aK W c_looked rfl (aA (aS 0) (aA (aS 1) (dB 2) aF) aF)))
 (aC (pU (aK W c_refuse_outside rfl (aA (aS 3) (aA (aK W c_whole rfl (aA (bD (kP W.calm) tM rfl B.sum fR (dB 2)) aN aV)) aN aV) aF)))
 (aJ (iO (gB W c_rightly_dealt rfl (aA (aS 0) (aA (aS 1) (aA (aS 2) (dB 3) aF) aF) aF))))))
theorem oY (F:Fn K mg "_law_refusal" eK ["ask", "way", "weights", "claims", "catch"] f fd) (B:Bt mg) (KT:Kt K) (C:Ct K mg) (R:Rt K mg) (ET:Et K mg) (c_looked:CanM P w K mg base k "looked" ["way", "weights", "claims"] bX) (c_dealt:CanM P w K mg base k "dealt" ["way", "weights", "claims", "catch"] eD) (c_contrary_way:CanM P w K mg base k "contrary_way" ["way"] bO):CanM P w K mg base (k+1) "_law_refusal" ["ask", "way", "weights", "claims", "catch"] aL:=
  jH F bA fun W WR=>(aC (s_z 5 bA.nd aW)
 (aC (s_z 6 bA.nd (fO zDw fun _=>.non))
 (aC (zFS W yL ET.cat rfl bA.nd (i:=7) rfl rfl (zAz (zJk (tst (eqA W.u) kT (aS 0) aW (aU _)) (zAz (zDM (i:=6) bA.nd rfl (Or.inl rfl) W c_looked rfl (aA (aS 1) (aA (aS 2) (dB 3) aF) aF))) (zAz (zJk (tst (eqA W.u) kT (aS 0) aW (aU _)) (zAz (zDM (i:=6) bA.nd rfl (Or.inl rfl) W c_dealt rfl (aA (aS 1) (aA (aS 2) (aA (aS 3) (dB 4) aF) aF) aF))) (zAz (zDM (i:=6) bA.nd rfl (Or.inl rfl) W c_contrary_way rfl (dB 1))))))) (fun ea G W=>(aC (s_z 8 bA.nd (PEf.d (bT (aA (tX ET.ek rfl rfl B.isinstance (pv 7) rfl) (aA (tX ET.ek rfl rfl B.isinstance (pv 7) rfl) (aA (tX ET.ek rfl rfl B.isinstance (pv 7) rfl) (aA (tX ET.ek rfl rfl B.isinstance (pv 7) rfl) aN aV) aV) aV) aV))))
 (aC (s_z 5 bA.nd (pL aW))
 (aC (iM (PWd.pt (zAK (tst (eqA W.u) kT (zEd W rfl B.sum (zAe W bA.nd rfl (sc:=aD eK) rfl rfl (by decide +kernel) (aS 8) (fun C2 s2 H2 fp2 G=>⟨zBD,(oH tU zDx rfl B.int boot_int (dB 9))⟩))) aW (aU _)) (sG (zHb (tX ET.ek rfl rfl B.isinstance (pv 7) rfl))))) (aJ (s_z 5 bA.nd (zCj (aS 8)))) bL)
 (aJ (iM (zHb (zEG ET.ek (.cons rfl rfl (by decide) rfl (.cons rfl rfl (by decide) rfl (.cons rfl rfl (by decide) rfl (.cons rfl rfl (by decide) rfl (.cons rfl rfl (by decide) rfl (.cons rfl rfl (by decide) rfl (.cons rfl rfl (by decide) rfl .nil))))))) rfl B.isinstance (pv 7) (by decide))) (aJ (s_z 5 bA.nd (pL aW))) bL)))))))
 (aJ (dP (nX (aA (aS 5) (dB 6) aF)))))))
theorem zGz (F:Fn K mg "law" nH ["script"] f fd) (B:Bt mg) (KT:Kt K) (C:Ct K mg) (R:Rt K mg) (ET:Et K mg) (c_law_way:CanM P w K mg base k "_law_way" ["cell"] gP) (c_law_claims:CanM P w K mg base k "_law_claims" ["script", "cell"] dZ) (c_law_weights:CanM P w K mg base k "_law_weights" ["script", "cell", "way", "many"] cY) (c_law_fraction:CanM P w K mg base k "_law_fraction" ["top", "bottom"] bN) (c_law_due:CanM P w K mg base k "_law_due" ["way", "weights", "claims"] cJ) (c_law_refusal:CanM P w K mg base k "_law_refusal" ["ask", "way", "weights", "claims", "catch"] aL) (c_law_cell_at:CanM P w K mg base k "_law_cell_at" ["script", "k"] bB):FnOk P w K mg base (CX1 P w) (k+1) f fd ["script"] (spM K mg 1 zEq):=
  zHD F fE fun cdv A outer s H E G W WR=>(aC (s_z 1 fE.nd (aK W c_law_way rfl (aA (aM aY cT (aK W c_law_cell_at rfl (aA (aS 0) (aA aW aN aT) aF)) (aM cX gU aW aW)) aN aX)))
 (aC (s_z 2 fE.nd (PEf.d (gB W c_law_claims rfl (aA (aS 0) (aA (aM aY cT (aK W c_law_cell_at rfl (aA (aS 0) (aA aW aN aT) aF)) (aM cX gU aW aW)) aN aX) aF))))
 (aC (s_z 3 fE.nd (aK W c_law_weights rfl (aA (aS 0) (aA (aM aY cT (aK W c_law_cell_at rfl (aA (aS 0) (aA aW aN aT) aF)) (aM cX gU aW aW)) (aA (aS 1) (aA (bD bF iA rfl B.len PySem.boot_len (dB 2)) aN aV) aF) aX) aF)))
 (aC (s_z 4 fE.nd (aM aY cT (aK W c_law_cell_at rfl (aA (aS 0) (aA aW aN aT) aF)) (aM cX gU aW aW)))
 (aC (s_z 5 fE.nd (bD (kP W.calm) tM rfl B.sum fR (dB 2)))
 (aC (s_z 6 fE.nd (aK W c_law_fraction rfl (aA (aM aY cT (aM bM eS (aS 4) aW) (aM eV nU (aM cU iL aW (bD mQ vQ rfl B.abs boot_abs (dB 5))) aW)) (aA aW aN aT) aX)))
 (aC (iM (tst (eqA W.u) kT (aM aY cT (aS 4) aW) aW (aU _)) (aJ (s_z 6 fE.nd (aK W c_law_fraction rfl (aA (aM eV nU (aM eV nU (aM cU iL aW (aS 5)) aW) (aM aY cT (aM bM eS (aS 4) aW) (jY cS wD (PEf.d (bT (aA aW (aA (aM cX gU aW aW) aN aX) aT))) (aM aY cT (aM bM eS (aS 4) aW) aW) (fun _ _=>rfl)))) (aA aW aN aT) aX)))) bL)
 (aC (iM (tst (eqA W.u) kT (aM aY cT (aS 4) aW) aW (aU _)) (aJ (s_z 6 fE.nd (aK W c_law_fraction rfl (aA (aM vV zCu (pL aW) (aM aY cT (aM bM eS (aS 4) aW) (jY cS wD (PEf.d (bT (aA aW (aA (aM cX gU aW aW) aN aX) aT))) (aM aY cT (aM bM eS (aS 4) aW) aW) (fun _ _=>rfl)))) (aA aW aN aT) aX)))) bL)
 (aC (s_z 7 fE.nd (PEf.d (bT (aA (PEf.d (zAf rfl B.list boot_list (dB 3))) (aA (PEf.d (zAf rfl B.list boot_list (dB 2))) aN aV) aV))))
 (aC (s_z 8 fE.nd (aK W c_law_due rfl (aA (aS 1) (aA (aS 3) (dB 2) aF) aF)))
 (aC (iM (tst (neA W.u) zAC (aK W c_law_refusal rfl (aA aW (aA (aS 1) (aA (iF 7) (aA (iF 7) (dB 6) dW) dW) aF) aT)) (nX (aA (aS 8) (aA (fO zDw fun _=>.non) aN aT) aF)) (aU _)) (aJ (dP (fO zCV fun _=>.bl _))) bL)
 (aC (iM (PWd.pt (zAK (tst (eqA W.u) kT (aS 8) aW (aU _)) (sG (PWd.pt (zFv (tst sN zDk (iF 6) aW (aU _)) (zAx (tst zCd zHU (iF 6) (aM cU iL (aS 5) (iF 6)) (aU _)))))))) (aJ (s_z 8 fE.nd aW)) bL)
 (aC (s_z 9 fE.nd (aK W c_law_refusal rfl (aA aW (aA (aS 1) (aA (iF 7) (aA (oH rJ zGg rfl B.tuple boot_tuple (aA (iF 7) aN dW)) (dB 6) aV) dW) aF) aT)))
 (aC (iM (PWd.pt (zFv (tst (neA W.u) zAC (iF 9) (aS 8) (aU _)) (zFv (tst (neA W.u) zAC (lO (eqA W.u) kT (aS 8) aW (aU _)) (zFU KT.list rfl B.isinstance (iF 9) (zBa (v:=.ty "list") rfl B.list boot_list rfl)) (aU _)) (zAx (tst (neA W.u) zAC (aS 7) (PEf.d (bT (aA (aS 3) (dB 2) aF))) (aU _)))))) (aJ (dP (fO zCV fun _=>.bl _))) bL)
 (aC (s_z 10 fE.nd (PEf.d (bT (aA (fO bH fun _=>.str _) (aA (fO bH fun _=>.str _) (aA (fO bH fun _=>.str _) (aA (fO bH fun _=>.str _) (aA (fO bH fun _=>.str _) yG aT) aT) aT) aT) aT))))
 (aC (iM (tst (zDd W.u) zBq (aS 1) (aS 10) (by with_unfolding_all rfl)) (aJ (dP (lO (eqA W.u) kT (zJw (aK W c_law_refusal rfl (aA aW (aA (aS 1) (aA (PEf.d (bT aN)) (aA (PEf.d (bT aN)) (dB 6) mO) mO) aF) aT))) aW (aU _)))) bL)
 (aJ (dP (lO (eqA W.u) kT (aK W c_law_refusal rfl (aA aW (aA (aS 1) (aA (PEf.d (bT aN)) (aA (PEf.d (bT aN)) (dB 6) mO) mO) aF) aT)) (nX (aA aW (aA (jY cS wD (PEf.d (bT (aA (fO bH fun _=>.str _) (aA (fO bH fun _=>.str _) (aA (fO bH fun _=>.str _) (aA (fO bH fun _=>.str _) (aA (fO bH fun _=>.str _) yG aT) aT) aT) aT) aT))) (zIL W.u (aS 10) (aS 1)) (fun _ _=>rfl)) aN dW) aT)) (aU _))))))))))))))))))))
end
end Lw
namespace Lw
open PySem PySem.Spec PyProof.Rows L2 L3
def FnK (K:PySem.W.Frag) (x:Str) (st:Stmt):Prop:=∃ f oc od sl kV dc pm an cd ct,PySem.W.nsIn K mainGlobals x=some (some (.ref f))/\K.lookup f=some ⟨oc,od,.func (PySem.W.fnOf x x (fM st) (dD st) (aD st) .none kV dc pm an cd ct),sl⟩/\PySem.W.codeIn K cd x=true/\PySem.W.keepIn K (.ref f)=true
theorem fk {K:PySem.W.Frag} {h:Heap} {mg:Str->Option Value} {x:Str} {st:Stmt} (X:K.In h) (G:h.Ns mainGlobals mg) (d:FnK K x st) (ps:List Str) (hb:∀ (kV doc pm:Value) (an:Option Addr) (cdv ct:Value) (us:List Value),us.length=ps.length->bindArgs (PySem.W.fnOf x x (fM st) (dD st) (aD st) .none kV doc pm an cdv ct) ⟨us,[]⟩=pure (ps.zip us)):∃ f fd,Fn K mg x st ps f fd:=by
 obtain ⟨f,oc,od,sl,kV,dc,pm,an,cd,ct,a,l,c,k⟩:=d
 exact ⟨f,_,pM (st:=st) l c k,(pM (st:=st) l c k).binds (ps:=ps) hb,k,PySem.W.mg_of X G a⟩
theorem fkm {K:PySem.W.Frag} {x:Str} {st:Stmt} {f:Addr} {oc:Value} {od an:Option Addr} {sl:Array (Option Value)} {kV dc pm cd ct:Value} (a:PySem.W.nsIn K mainGlobals x=some (some (.ref f))) (l:K.lookup f=some ⟨oc,od,.func (PySem.W.fnOf x x (fM st) (dD st) (aD st) .none kV dc pm an cd ct),sl⟩) (c:PySem.W.codeIn K cd x=true) (k:PySem.W.keepIn K (.ref f)=true):FnK K x st:=⟨f,oc,od,sl,kV,dc,pm,an,cd,ct,a,l,c,k⟩
theorem zHp {l:PySem.W.OpenLaw} {w:World} {K:PySem.W.Frag} {h:Heap} {mg:Str->Option Value} {fa f11 f31:Addr} (X:K.In h) (G:h.Ns mainGlobals mg) (hfa:mg "law" = some (.ref fa))
  {od11 an11:Option Addr} {sl11:Array (Option Value)} {oc11 kV11 dc11 pm11 ct11:Value}
  {od31 an31:Option Addr} {sl31:Array (Option Value)} {oc31 kV31 dc31 pm31 cd31 ct31:Value}
  (d0:FnK K "common_divisor" eG)
  (d1:FnK K "made" zBH)
  (d2:FnK K "whole" vH)
  (d3:FnK K "plus" yK)
  (d4:FnK K "minus" uL)
  (d5:FnK K "times" vJ)
  (d6:FnK K "over" zAo)
  (d7:FnK K "less" zBd)
  (d8:FnK K "lesser" qF)
  (d9:FnK K "is_outside" gZ)
  (d10:FnK K "refuse_outside" eE)
  {cR T:Addr}
  (a11:PySem.W.nsIn K mainGlobals "ranked" = some (some (.ref f11))) (l11:K.lookup f11=some ⟨oc11,od11,.func (PySem.W.fnOf "ranked" "ranked" (fM eJ) (dD eJ) (aD eJ) .none kV11 dc11 pm11 an11 (.ref cR) ct11),sl11⟩) (c11:PySem.W.codeIn K (.ref cR) "ranked" = true) (k11:PySem.W.keepIn K (.ref f11)=true)
  (tq:PySem.W.codeHdIn K cR T=true) (tn:K.lookup T=none)
  (d12:FnK K "looked" qD)
  (d13:FnK K "refuse_way" gT)
  (d14:FnK K "refuse_claims" eQ)
  (d15:FnK K "refuse_weights" eH)
  (d16:FnK K "contrary_way" fK)
  (d17:FnK K "dealt" vB)
  (d18:FnK K "rightly_dealt" cV)
  (d19:FnK K "row_dealt" iU)
  (d20:FnK K "even_dealt" gY)
  (d21:FnK K "levels_of" gF)
  (d22:FnK K "part_dealt" fF)
  (d23:FnK K "half_dealt" eZ)
  (d24:FnK K "_law_cell_at" fW)
  (d25:FnK K "_law_fraction" fH)
  (d26:FnK K "_law_way" nM)
  (d27:FnK K "_law_claims" hU)
  (d28:FnK K "_law_weights" gA)
  (d29:FnK K "_law_due" mZ)
  (d30:FnK K "_law_refusal" eK)
  (a31:PySem.W.nsIn K mainGlobals "law" = some (some (.ref f31))) (l31:K.lookup f31=some ⟨oc31,od31,.func (PySem.W.fnOf "law" "law" (fM nH) (dD nH) (aD nH) .none kV31 dc31 pm31 an31 cd31 ct31),sl31⟩) (c31:PySem.W.codeIn K cd31 "law" = true) (k31:PySem.W.keepIn K (.ref f31)=true)
  (z_abs:PySem.W.nsIn K mainGlobals "abs" = some none)
  (z_sorted:PySem.W.nsIn K mainGlobals "sorted" = some none)
  (z_range:PySem.W.nsIn K mainGlobals "range" = some none)
  (z_len:PySem.W.nsIn K mainGlobals "len" = some none)
  (z_sum:PySem.W.nsIn K mainGlobals "sum" = some none)
  (z_zip:PySem.W.nsIn K mainGlobals "zip" = some none)
  (z_min:PySem.W.nsIn K mainGlobals "min" = some none)
  (z_int:PySem.W.nsIn K mainGlobals "int" = some none)
  (z_max:PySem.W.nsIn K mainGlobals "max" = some none)
  (z_isinstance:PySem.W.nsIn K mainGlobals "isinstance" = some none)
  (z_list:PySem.W.nsIn K mainGlobals "list" = some none)
  (z_tuple:PySem.W.nsIn K mainGlobals "tuple" = some none)
  (KT:Kt K) (CC:∀ (h:Heap) (mg:Str->Option Value),K.In h->h.Ns mainGlobals mg->Ct K mg) (RR:∀ (h:Heap) (mg:Str->Option Value),K.In h->h.Ns mainGlobals mg->Rt K mg) (EE:∀ (h:Heap) (mg:Str->Option Value),K.In h->h.Ns mainGlobals mg->Et K mg)
  : K.lookup T=none/\jZ K mg T/\∃ fd:FuncData,(∀ (s:Shared) (v:Value),BindsTo s fd ⟨[v],[]⟩ [("script", v)])/\∀ base:Heap,K.In base->base.Ns mainGlobals mg->BMn base mg->FnOk l.prog w K mg base (CX1 l.prog w) 11 fa fd ["script"] (zGA K mg):=by
 have e:=hfa.symm.trans (PySem.W.mg_of X G a31)
 cases e
 have B:Bt mg:=⟨PySem.W.mg_none_of X G z_abs,PySem.W.mg_none_of X G z_sorted,PySem.W.mg_none_of X G z_range,PySem.W.mg_none_of X G z_len,PySem.W.mg_none_of X G z_sum,PySem.W.mg_none_of X G z_zip,PySem.W.mg_none_of X G z_min,PySem.W.mg_none_of X G z_int,PySem.W.mg_none_of X G z_max,PySem.W.mg_none_of X G z_isinstance,PySem.W.mg_none_of X G z_list,PySem.W.mg_none_of X G z_tuple⟩
 have C:Ct K mg:=CC h mg X G
 have R:Rt K mg:=RR h mg X G
 have ET:Et K mg:=EE h mg X G
 have hT:jZ K mg T:=⟨f11,_,_,_,_,cR,PySem.W.mg_of X G a11,l11,rfl,fun h X=>PySem.W.codeHd_of_K X tq⟩
 refine ⟨tn,hT,?_⟩
 refine ⟨PySem.W.fnOf "law" "law" (fM nH) (dD nH) (aD nH) .none kV31 dc31 pm31 an31 cd31 ct31,fun s v=>.of_eq rfl,fun base _ _ hB=>?_⟩
 obtain ⟨_,_,F0⟩:=fk X G d0 ["one", "two"] fun _ _ _ _ _ _ us hl=>by obtain ⟨_,_,rfl⟩:=L3.ln2 hl;rfl
 have c_common_divisor:=lE (P:=l.prog) (w:=w) (base:=base) (k:=0) F0 B KT C R ET
 obtain ⟨_,_,F2⟩:=fk X G d2 ["number"] fun _ _ _ _ _ _ us hl=>by obtain ⟨_,rfl⟩:=L3.ln1 hl;rfl
 have c_whole:=zCo (P:=l.prog) (w:=w) (base:=base) (k:=0) F2 B KT C R ET
 obtain ⟨_,_,F7⟩:=fk X G d7 ["one", "two"] fun _ _ _ _ _ _ us hl=>by obtain ⟨_,_,rfl⟩:=L3.ln2 hl;rfl
 have c_less:=zFi (P:=l.prog) (w:=w) (base:=base) (k:=0) F7 B KT C R ET
 have F11:Fn K mg "ranked" eJ ["some"] _ _:=⟨pM (st:=eJ) l11 c11 k11,(pM (st:=eJ) l11 c11 k11).binds (ps:=["some"]) fun _ _ _ _ _ _ us hl=>by obtain ⟨_,rfl⟩:=L3.ln1 hl;rfl,k11,PySem.W.mg_of X G a11⟩
 have c_ranked:=yP (P:=l.prog) (w:=w) (base:=base) (k:=0) F11 B KT C R ET hT hB
 obtain ⟨_,_,F13⟩:=fk X G d13 ["way"] fun _ _ _ _ _ _ us hl=>by obtain ⟨_,rfl⟩:=L3.ln1 hl;rfl
 have c_refuse_way:=qU (P:=l.prog) (w:=w) (base:=base) (k:=0) F13 B KT C R ET
 obtain ⟨_,_,F14⟩:=fk X G d14 ["claims"] fun _ _ _ _ _ _ us hl=>by obtain ⟨_,rfl⟩:=L3.ln1 hl;rfl
 have c_refuse_claims:=mF (P:=l.prog) (w:=w) (base:=base) (k:=0) F14 B KT C R ET
 obtain ⟨_,_,F15⟩:=fk X G d15 ["way", "weights", "many"] fun _ _ _ _ _ _ us hl=>by obtain ⟨_,_,_,rfl⟩:=L3.ln3 hl;rfl
 have c_refuse_weights:=lB (P:=l.prog) (w:=w) (base:=base) (k:=0) F15 B KT C R ET
 obtain ⟨_,_,F24⟩:=fk X G d24 ["script", "k"] fun _ _ _ _ _ _ us hl=>by obtain ⟨_,_,rfl⟩:=L3.ln2 hl;rfl
 have c_law_cell_at:=oU (P:=l.prog) (w:=w) (base:=base) (k:=0) F24 B KT C R ET
 obtain ⟨_,_,F25⟩:=fk X G d25 ["top", "bottom"] fun _ _ _ _ _ _ us hl=>by obtain ⟨_,_,rfl⟩:=L3.ln2 hl;rfl
 have c_law_fraction:=nO (P:=l.prog) (w:=w) (base:=base) (k:=0) F25 B KT C R ET
 obtain ⟨_,_,F26⟩:=fk X G d26 ["cell"] fun _ _ _ _ _ _ us hl=>by obtain ⟨_,rfl⟩:=L3.ln1 hl;rfl
 have c_law_way:=yD (P:=l.prog) (w:=w) (base:=base) (k:=0) F26 B KT C R ET
 obtain ⟨_,_,F29⟩:=fk X G d29 ["way", "weights", "claims"] fun _ _ _ _ _ _ us hl=>by obtain ⟨_,_,_,rfl⟩:=L3.ln3 hl;rfl
 have c_law_due:=xW (P:=l.prog) (w:=w) (base:=base) (k:=0) F29 B KT C R ET
 obtain ⟨_,_,F1⟩:=fk X G d1 ["top", "bottom"] fun _ _ _ _ _ _ us hl=>by obtain ⟨_,_,rfl⟩:=L3.ln2 hl;rfl
 have c_made:=zDK (P:=l.prog) (w:=w) (base:=base) (k:=1) F1 B KT C R ET (c_common_divisor:=c_common_divisor.mono (by decide))
 obtain ⟨_,_,F8⟩:=fk X G d8 ["one", "two"] fun _ _ _ _ _ _ us hl=>by obtain ⟨_,_,rfl⟩:=L3.ln2 hl;rfl
 have c_lesser:=zAg (P:=l.prog) (w:=w) (base:=base) (k:=1) F8 B KT C R ET (c_less:=c_less.mono (by decide))
 obtain ⟨_,_,F9⟩:=fk X G d9 ["amount", "most"] fun _ _ _ _ _ _ us hl=>by obtain ⟨_,_,rfl⟩:=L3.ln2 hl;rfl
 have c_is_outside:=qS (P:=l.prog) (w:=w) (base:=base) (k:=1) F9 B KT C R ET (c_less:=c_less.mono (by decide))
 obtain ⟨_,_,F12⟩:=fk X G d12 ["way", "weights", "claims"] fun _ _ _ _ _ _ us hl=>by obtain ⟨_,_,_,rfl⟩:=L3.ln3 hl;rfl
 have c_looked:=yZ (P:=l.prog) (w:=w) (base:=base) (k:=1) F12 B KT C R ET (c_refuse_way:=c_refuse_way.mono (by decide)) (c_refuse_claims:=c_refuse_claims.mono (by decide)) (c_refuse_weights:=c_refuse_weights.mono (by decide))
 obtain ⟨_,_,F16⟩:=fk X G d16 ["way"] fun _ _ _ _ _ _ us hl=>by obtain ⟨_,rfl⟩:=L3.ln1 hl;rfl
 have c_contrary_way:=nJ (P:=l.prog) (w:=w) (base:=base) (k:=1) F16 B KT C R ET (c_refuse_way:=c_refuse_way.mono (by decide))
 obtain ⟨_,_,F27⟩:=fk X G d27 ["script", "cell"] fun _ _ _ _ _ _ us hl=>by obtain ⟨_,_,rfl⟩:=L3.ln2 hl;rfl
 have c_law_claims:=qX (P:=l.prog) (w:=w) (base:=base) (k:=1) F27 B KT C R ET (c_law_cell_at:=c_law_cell_at.mono (by decide))
 obtain ⟨_,_,F28⟩:=fk X G d28 ["script", "cell", "way", "many"] fun _ _ _ _ _ _ us hl=>by obtain ⟨_,_,_,_,rfl⟩:=L3.ln4 hl;rfl
 have c_law_weights:=pH (P:=l.prog) (w:=w) (base:=base) (k:=1) F28 B KT C R ET (c_law_cell_at:=c_law_cell_at.mono (by decide))
 obtain ⟨_,_,F3⟩:=fk X G d3 ["one", "two"] fun _ _ _ _ _ _ us hl=>by obtain ⟨_,_,rfl⟩:=L3.ln2 hl;rfl
 have c_plus:=zEK (P:=l.prog) (w:=w) (base:=base) (k:=2) F3 B KT C R ET (c_made:=c_made.mono (by decide))
 obtain ⟨_,_,F4⟩:=fk X G d4 ["one", "two"] fun _ _ _ _ _ _ us hl=>by obtain ⟨_,_,rfl⟩:=L3.ln2 hl;rfl
 have c_minus:=zCS (P:=l.prog) (w:=w) (base:=base) (k:=2) F4 B KT C R ET (c_made:=c_made.mono (by decide))
 obtain ⟨_,_,F5⟩:=fk X G d5 ["one", "two"] fun _ _ _ _ _ _ us hl=>by obtain ⟨_,_,rfl⟩:=L3.ln2 hl;rfl
 have c_times:=zBW (P:=l.prog) (w:=w) (base:=base) (k:=2) F5 B KT C R ET (c_made:=c_made.mono (by decide))
 obtain ⟨_,_,F6⟩:=fk X G d6 ["one", "two"] fun _ _ _ _ _ _ us hl=>by obtain ⟨_,_,rfl⟩:=L3.ln2 hl;rfl
 have c_over:=zEi (P:=l.prog) (w:=w) (base:=base) (k:=2) F6 B KT C R ET (c_made:=c_made.mono (by decide))
 obtain ⟨_,_,F10⟩:=fk X G d10 ["amount", "most"] fun _ _ _ _ _ _ us hl=>by obtain ⟨_,_,rfl⟩:=L3.ln2 hl;rfl
 have c_refuse_outside:=kW (P:=l.prog) (w:=w) (base:=base) (k:=2) F10 B KT C R ET (c_is_outside:=c_is_outside.mono (by decide))
 obtain ⟨_,_,F21⟩:=fk X G d21 ["weights", "claims"] fun _ _ _ _ _ _ us hl=>by obtain ⟨_,_,rfl⟩:=L3.ln2 hl;rfl
 have c_levels_of:=rW (P:=l.prog) (w:=w) (base:=base) (k:=2) F21 B KT C R ET (c_made:=c_made.mono (by decide))
 obtain ⟨_,_,F19⟩:=fk X G d19 ["claims", "catch"] fun _ _ _ _ _ _ us hl=>by obtain ⟨_,_,rfl⟩:=L3.ln2 hl;rfl
 have c_row_dealt:=sZ (P:=l.prog) (w:=w) (base:=base) (k:=3) F19 B KT C R ET (c_lesser:=c_lesser.mono (by decide)) (c_minus:=c_minus.mono (by decide)) (c_whole:=c_whole.mono (by decide))
 obtain ⟨_,_,F20⟩:=fk X G d20 ["weights", "claims", "catch"] fun _ _ _ _ _ _ us hl=>by obtain ⟨_,_,_,rfl⟩:=L3.ln3 hl;rfl
 have c_even_dealt:=qQ (P:=l.prog) (w:=w) (base:=base) (k:=3) F20 B KT C R ET (c_ranked:=c_ranked.mono (by decide)) (c_levels_of:=c_levels_of.mono (by decide)) (c_over:=c_over.mono (by decide)) (c_lesser:=c_lesser.mono (by decide)) (c_minus:=c_minus.mono (by decide)) (c_times:=c_times.mono (by decide)) (c_whole:=c_whole.mono (by decide))
 obtain ⟨_,_,F22⟩:=fk X G d22 ["claims", "catch"] fun _ _ _ _ _ _ us hl=>by obtain ⟨_,_,rfl⟩:=L3.ln2 hl;rfl
 have c_part_dealt:=rG (P:=l.prog) (w:=w) (base:=base) (k:=3) F22 B KT C R ET (c_over:=c_over.mono (by decide)) (c_whole:=c_whole.mono (by decide)) (c_times:=c_times.mono (by decide))
 obtain ⟨_,_,F23⟩:=fk X G d23 ["claims", "catch"] fun _ _ _ _ _ _ us hl=>by obtain ⟨_,_,rfl⟩:=L3.ln2 hl;rfl
 have c_half_dealt:=qP (P:=l.prog) (w:=w) (base:=base) (k:=4) F23 B KT C R ET (c_times:=c_times.mono (by decide)) (c_even_dealt:=c_even_dealt.mono (by decide)) (c_plus:=c_plus.mono (by decide))
 obtain ⟨_,_,F18⟩:=fk X G d18 ["way", "weights", "claims", "catch"] fun _ _ _ _ _ _ us hl=>by obtain ⟨_,_,_,_,rfl⟩:=L3.ln4 hl;rfl
 have c_rightly_dealt:=gH (P:=l.prog) (w:=w) (base:=base) (k:=5) F18 B KT C R ET (c_whole:=c_whole.mono (by decide)) (c_row_dealt:=c_row_dealt.mono (by decide)) (c_even_dealt:=c_even_dealt.mono (by decide)) (c_part_dealt:=c_part_dealt.mono (by decide)) (c_half_dealt:=c_half_dealt.mono (by decide)) (c_minus:=c_minus.mono (by decide)) (c_less:=c_less.mono (by decide)) (c_plus:=c_plus.mono (by decide)) 2
 obtain ⟨_,_,F17⟩:=fk X G d17 ["way", "weights", "claims", "catch"] fun _ _ _ _ _ _ us hl=>by obtain ⟨_,_,_,_,rfl⟩:=L3.ln4 hl;rfl
 have c_dealt:=zCq (P:=l.prog) (w:=w) (base:=base) (k:=8) F17 B KT C R ET (c_looked:=c_looked.mono (by decide)) (c_refuse_outside:=c_refuse_outside.mono (by decide)) (c_rightly_dealt:=c_rightly_dealt.mono (by decide)) (c_whole:=c_whole.mono (by decide))
 obtain ⟨_,_,F30⟩:=fk X G d30 ["ask", "way", "weights", "claims", "catch"] fun _ _ _ _ _ _ us hl=>by obtain ⟨_,_,_,_,_,rfl⟩:=L3.ln5 hl;rfl
 have c_law_refusal:=oY (P:=l.prog) (w:=w) (base:=base) (k:=9) F30 B KT C R ET (c_looked:=c_looked.mono (by decide)) (c_dealt:=c_dealt.mono (by decide)) (c_contrary_way:=c_contrary_way.mono (by decide))
 have F31:Fn K mg "law" nH ["script"] _ _:=⟨pM (st:=nH) l31 c31 k31,(pM (st:=nH) l31 c31 k31).binds (ps:=["script"]) fun _ _ _ _ _ _ us hl=>by obtain ⟨_,rfl⟩:=L3.ln1 hl;rfl,k31,PySem.W.mg_of X G a31⟩
 have c_law:=zGz (P:=l.prog) (w:=w) (base:=base) (k:=10) F31 B KT C R ET (c_law_way:=c_law_way.mono (by decide)) (c_law_claims:=c_law_claims.mono (by decide)) (c_law_weights:=c_law_weights.mono (by decide)) (c_law_fraction:=c_law_fraction.mono (by decide)) (c_law_due:=c_law_due.mono (by decide)) (c_law_refusal:=c_law_refusal.mono (by decide)) (c_law_cell_at:=c_law_cell_at.mono (by decide))
 exact zDS c_law law_true
end Lw
open PySem PySem.W PyProof.Rows
local macro_rules | `(tactic| walk_at "fk")=>`(tactic| (refine' Lw.fkm ?a ?l ?c ?k;(case a=>k_is);(case l=>k_is);(case c=>k_is);(case k=>k_is)))
set_option maxRecDepth 100000 in
set_option maxHeartbeats 0 in
theorem PySem.Challenge.cw_catchhall_k13_what_is_looked_at_holds : PySem.Challenge.rw_catchhall_k13_what_is_looked_at.Holds := by
 w_on;o_law;k_head;(case hw=>w_witness2)
 k_fill
 refine L3.zIo (l:=PySem.Challenge.rw_catchhall_k13_what_is_looked_at) (k:=11) rfl rfl ⟨rfl,by decide,by decide⟩ (fun w h Y=>PySem.W.km_in_of Y) (fun w h Y=>PySem.W.km_tabs_of Y _ (.head _)) ?F
 case F=>
  intro w mg fa h KX G hmg
  refine' Lw.zHp KX G hmg ?d0 ?d1 ?d2 ?d3 ?d4 ?d5 ?d6 ?d7 ?d8 ?d9 ?d10 ?a11 ?l11 ?c11 ?k11 ?tq ?tn ?d12 ?d13 ?d14 ?d15 ?d16 ?d17 ?d18 ?d19 ?d20 ?d21 ?d22 ?d23 ?d24 ?d25 ?d26 ?d27 ?d28 ?d29 ?d30 ?a31 ?l31 ?c31 ?k31 ?z_abs ?z_sorted ?z_range ?z_len ?z_sum ?z_zip ?z_min ?z_int ?z_max ?z_isinstance ?z_list ?z_tuple ?KT ?CC ?RR ?EE
  (case a11=>k_is)
  (case l11=>k_is)
  (case c11=>k_is)
  (case k11=>k_is)
  (case tq=>first | k_is | kernel_rfl | kn_code | decide +kernel)
  (case tn=>first | k_is | kernel_rfl | kn_code | decide +kernel)
  (case a31=>k_is)
  (case l31=>k_is)
  (case c31=>k_is)
  (case k31=>k_is)
  (case d0=>walk_at "fk")
  (case d1=>walk_at "fk")
  (case d2=>walk_at "fk")
  (case d3=>walk_at "fk")
  (case d4=>walk_at "fk")
  (case d5=>walk_at "fk")
  (case d6=>walk_at "fk")
  (case d7=>walk_at "fk")
  (case d8=>walk_at "fk")
  (case d9=>walk_at "fk")
  (case d10=>walk_at "fk")
  (case d12=>walk_at "fk")
  (case d13=>walk_at "fk")
  (case d14=>walk_at "fk")
  (case d15=>walk_at "fk")
  (case d16=>walk_at "fk")
  (case d17=>walk_at "fk")
  (case d18=>walk_at "fk")
  (case d19=>walk_at "fk")
  (case d20=>walk_at "fk")
  (case d21=>walk_at "fk")
  (case d22=>walk_at "fk")
  (case d23=>walk_at "fk")
  (case d24=>walk_at "fk")
  (case d25=>walk_at "fk")
  (case d26=>walk_at "fk")
  (case d27=>walk_at "fk")
  (case d28=>walk_at "fk")
  (case d29=>walk_at "fk")
  (case d30=>walk_at "fk")
  (case z_abs=>k_is)
  (case z_sorted=>k_is)
  (case z_range=>k_is)
  (case z_len=>k_is)
  (case z_sum=>k_is)
  (case z_zip=>k_is)
  (case z_min=>k_is)
  (case z_int=>k_is)
  (case z_max=>k_is)
  (case z_isinstance=>k_is)
  (case z_list=>k_is)
  (case z_tuple=>k_is)
  (case KT=>refine' ⟨⟨?t0_0,?t0_1,?t0_2,?t0_3,?t0_4,?t0_5⟩⟩<;>(first | kit_is | (show _=some true;kit_is) | (show _=some false;kit_is) | rfl | decide +kernel))
  (case CC=>
   intro h mg X G
   refine' Lw.zIr X G ?n_HALF ?pHALF0_l ?n_NOUGHT ?pNOUGHT1_l ?n_WEIGHTED ?pWEIGHTED2_l ?n_CONTRARY ?aQ<;>try first | k_is | kit_is | k_exc | rfl | decide +kernel | kernel_rfl)
  (case RR=>
   intro h mg X G
   refine' Lw.zIf X G ?n_BadClaim ?x_BadClaim ?n_BadWay ?x_BadWay ?n_BadWeights ?x_BadWeights ?n_NoFraction ?x_NoFraction ?n_Outside ?x_Outside<;>try first | k_is | kit_is | k_exc | rfl | decide +kernel | kernel_rfl)
  (case EE=>
   intro h mg X G
   refine' Lw.zId X G ?n_CatchError ?n_BadWay ?n_BadClaim ?n_BadWeights ?n_Outside ?n_Unlike ?n_TooMany ?n_NoText ?n_NoFraction ?n_NoBoat ?n_BadLine ?n_BadCatch ?z_ValueError ?ce1 ?ce2 ?ce3 ?g5 ?g6 ?e1_BadWay ?e2_BadWay ?e3_BadWay ?e4_BadWay ?e7_BadWay ?e8_BadWay ?em_BadWay ?k_BadWay_Outside ?k_BadWay_BadWeights ?k_BadWay_BadClaim ?k_BadWay_BadWay ?k_BadWay_ValueError ?k_BadWay_Unlike ?k_BadWay_TooMany ?k_BadWay_NoText ?k_BadWay_NoFraction ?k_BadWay_NoBoat ?k_BadWay_BadLine ?k_BadWay_BadCatch ?e1_BadClaim ?e2_BadClaim ?e3_BadClaim ?e4_BadClaim ?e7_BadClaim ?e8_BadClaim ?em_BadClaim ?k_BadClaim_Outside ?k_BadClaim_BadWeights ?k_BadClaim_BadClaim ?k_BadClaim_BadWay ?k_BadClaim_ValueError ?k_BadClaim_Unlike ?k_BadClaim_TooMany ?k_BadClaim_NoText ?k_BadClaim_NoFraction ?k_BadClaim_NoBoat ?k_BadClaim_BadLine ?k_BadClaim_BadCatch ?e1_BadWeights ?e2_BadWeights ?e3_BadWeights ?e4_BadWeights ?e7_BadWeights ?e8_BadWeights ?em_BadWeights ?k_BadWeights_Outside ?k_BadWeights_BadWeights ?k_BadWeights_BadClaim ?k_BadWeights_BadWay ?k_BadWeights_ValueError ?k_BadWeights_Unlike ?k_BadWeights_TooMany ?k_BadWeights_NoText ?k_BadWeights_NoFraction ?k_BadWeights_NoBoat ?k_BadWeights_BadLine ?k_BadWeights_BadCatch ?e1_Outside ?e2_Outside ?e3_Outside ?e4_Outside ?e7_Outside ?e8_Outside ?em_Outside ?k_Outside_Outside ?k_Outside_BadWeights ?k_Outside_BadClaim ?k_Outside_BadWay ?k_Outside_ValueError ?k_Outside_Unlike ?k_Outside_TooMany ?k_Outside_NoText ?k_Outside_NoFraction ?k_Outside_NoBoat ?k_Outside_BadLine ?k_Outside_BadCatch<;>try first | k_is | kit_is | k_exc | rfl | decide +kernel | kernel_rfl)
