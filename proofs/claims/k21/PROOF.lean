import PyProof.Rows.All
import Wide.All
import OpenK.AllK
import Wide.FinOn
import Lean
import PyProof.EqAt
import PyProof.EqKinds
import PyProof.TupleCall
import PyProof.NeKinds
import KE.KRevIter
import PyProof.Rows.SumAny
import PySem.Challenge.RW_catchhall_k21_half_and_half_lines
noncomputable section
set_option Elab.async false
set_option linter.all false
set_option maxRecDepth 100000
namespace L2
open PySem PySem.Spec PyProof.Rows
abbrev Key:=Sum Int Str
def zLU:Key->Value->Bool
 | .inl k,v=>Value.isInt k v
 | .inr x,v=>Value.isStrOf x v
def zPH (w:World):Key->Int
 | .inl k=>hashInt k
 | .inr x=>hashStr w x
theorem cS:∀ {k:Key} {v:Value},zLU k v=true->(∃ i t,k=Sum.inl i/\v=Value.int i t)∨(∃ x t,k=Sum.inr x/\v=Value.str x t)
 | .inl i,v,h=>by
  obtain ⟨t,e⟩:=Value.isInt_shape (k:=i) (v:=v) h
  exact .inl ⟨i,t,rfl,e⟩
 | .inr x,v,h=>by
  obtain ⟨t,e⟩:=Value.isStrOf_shape (x:=x) (v:=v) h
  exact .inr ⟨x,t,rfl,e⟩
theorem zML (a b:Int):decide ((Sum.inl a:Key)=Sum.inl b)=(a==b):=by
 by_cases e:a=b
 ·subst e;simp
 ·have h:¬ (Sum.inl a:Key)=Sum.inl b:=fun q=>e (Sum.inl.inj q)
  rw [decide_eq_false h]
  exact (beq_eq_false_iff_ne.mpr e).symm
theorem zNm (a b:Str):decide ((Sum.inr a:Key)=Sum.inr b)=decide (a=b):=by
 by_cases e:a=b
 ·subst e;simp
 ·have h:¬ (Sum.inr a:Key)=Sum.inr b:=fun q=>e (Sum.inr.inj q)
  rw [decide_eq_false h,decide_eq_false e]
theorem zMw (a:Int) (b:Str):decide ((Sum.inl a:Key)=Sum.inr b)=false:=decide_eq_false (fun q=>nomatch q)
theorem zLZ (a:Str) (b:Int):decide ((Sum.inr a:Key)=Sum.inl b)=false:=decide_eq_false (fun q=>nomatch q)
def zGZ (prog:Program) (w:World):PySem.KeyKind prog w Key where
 is:=zLU
 hash:=zPH w
 inj:=fun v a b ha hb=>by
  rcases cS ha with ⟨i,t,rfl,rfl⟩ | ⟨x,t,rfl,rfl⟩
  ·rcases cS hb with ⟨j,u,rfl,e⟩ | ⟨y,u,rfl,e⟩
   ·injection e with e1 _;rw [e1]
   ·exact nomatch e
  ·rcases cS hb with ⟨j,u,rfl,e⟩ | ⟨y,u,rfl,e⟩
   ·exact nomatch e
   ·injection e with e1 _;rw [e1]
 byValue:=fun k v h=>by
  rcases cS h with ⟨i,t,rfl,rfl⟩ | ⟨x,t,rfl,rfl⟩<;>rfl
 pyHash:=fun hv h=>by
  rcases cS hv with ⟨i,t,rfl,rfl⟩ | ⟨x,t,rfl,rfl⟩
  ·exact wpAny_pyHash_int h
  ·exact wpAny_pyHash_str h
 eqBool:=fun hu hv h=>by
  rcases cS hu with ⟨i,t,rfl,rfl⟩ | ⟨x,t,rfl,rfl⟩
  ·rcases cS hv with ⟨j,u,rfl,rfl⟩ | ⟨y,u,rfl,rfl⟩
   ·rw [zML] at h;exact wpAny_eqBool_int h
   ·rw [zMw] at h;exact SeqAt.EqAt.int_str i t y u _ _ _ _ h
  ·rcases cS hv with ⟨j,u,rfl,rfl⟩ | ⟨y,u,rfl,rfl⟩
   ·rw [zLZ] at h;exact SeqAt.EqAt.str_int x t j u _ _ _ _ h
   ·rw [zNm] at h;exact wpAny_eqBool_str h
 «strs» := fun k x t v h=>by
  rcases cS h with ⟨i,u,rfl,e⟩ | ⟨y,u,rfl,e⟩
  ·exact nomatch e
  ·injection e with e1 _
   subst e1
   cases v<;>rfl
end L2
namespace L2
open PySem PySem.Spec PyProof.Rows
inductive V where
 | non | bl (b:Bool) | int (i:Int) | str (x:Str) | byt (b:Array UInt8) | flt (b:UInt64) | ref (a:Addr) | ty (n:String)
 deriving DecidableEq
def cP:V->Value->Prop
 | .non,u=>u=Value.none
 | .bl b,u=>u=Value.bool b
 | .int i,u=>∃ t,u=Value.int i t
 | .str x,u=>∃ t,u=Value.str x t
 | .byt b,u=>∃ t,u=Value.bytes b t
 | .flt b,u=>∃ t,u=Value.float b t
 | .ref a,u=>u=Value.ref a
 | .ty n,u=>u=Value.type n
abbrev cX:List V->List Value->Prop:=Paired cP
theorem cX.length {xs:List V} {us:List Value} (r:cX xs us):xs.length=us.length:=Paired.length r
theorem cX.get:∀ {xs:List V} {us:List Value} {i:Nat} {x:V},cX xs us->xs[i]?=some x->∃ u,us[i]?=some u/\cP x u
 | _,_,_,_,.nil,e=>by simp at e
 | _,_,0,_,.cons r _,e=>by simp at e;subst e;exact ⟨_,rfl,r⟩
 | _,_,i+1,x,.cons _ t,e=>by
  obtain ⟨u,h1,h2⟩:=cX.get (i:=i) (x:=x) t (by simpa using e)
  exact ⟨u,by simpa using h1,h2⟩
theorem cX.set {x:V} {u:Value} (r:cP x u):∀ {xs:List V} {us:List Value} (i:Nat),cX xs us->cX (xs.set i x) (us.set i u)
 | _,_,_,.nil=>.nil
 | _,_,0,.cons _ t=>.cons r t
 | _,_,i+1,.cons q t=>.cons q (cX.set r i t)
theorem cX.append:∀ {xs ys:List V} {us ws:List Value},cX xs us->cX ys ws->cX (xs++ys) (us++ws)
 | _,_,_,_,.nil,s=>s
 | _,_,_,_,.cons r t,s=>.cons r (cX.append t s)
theorem cX.take:∀ {xs:List V} {us:List Value} (n:Nat),cX xs us->cX (xs.take n) (us.take n)
 | _,_,0,_=>.nil
 | _,_,_+1,.nil=>.nil
 | _,_,n+1,.cons r t=>.cons r (cX.take n t)
theorem cX.drop:∀ {xs:List V} {us:List Value} (n:Nat),cX xs us->cX (xs.drop n) (us.drop n)
 | _,_,0,r=>r
 | _,_,_+1,.nil=>.nil
 | _,_,n+1,.cons _ t=>cX.drop n t
def zPj:Option V->Option Value->Prop
 | some v,some u=>cP v u
 | none,none=>True
 | _,_=>False
def KV {κ:Type}:List (κ×V)->List (κ×Value)->Prop:=Paired fun (p:κ×V) (q:κ×Value)=>p.1=q.1/\cP p.2 q.2
def kV:Key->V
 | .inl i=>.int i
 | .inr x=>.str x
inductive HO where
 | lst (xs:List V)
 | tup (xs:List V)
 | dK (kvs:List (Key×V)) | dT (kvs:List (List Key×V))
 | set (S:Int->Bool) (n:Nat)
 | ins (C dx:Addr) (fs:List (Str×V))
 | own (x:Addr)
 | xd (fs:List (Str×V))
 | met (f x:Addr)
 | rng (lo hi:Int)
 | frz (o:Obj) (u:HO)
 | tbl (ps:Array Value)
 | ext (φ:Heap->Prop)
abbrev Hp:=Addr->Option HO
def upd (H:Hp) (a:Addr) (o:HO):Hp:=fun b=>if b=a then some o else H b
theorem aR {H:Hp} {a:Addr} {o:HO}:upd H a o a=some o:=by unfold upd;rw [if_pos rfl]
theorem aS {H:Hp} {a b:Addr} {o:HO} (h:b≠a):upd H a o b=H b:=by unfold upd;rw [if_neg h]
theorem zLK {H:Hp} {a b:Addr} {o u:HO} (h:H a=some o) (h':H b=some u) (d:o≠u):a≠b:=by
 intro e;subst e;rw [h] at h';exact d (Option.some.inj h')
theorem aX {H:Hp} {a b:Addr} {o:HO} (h:H a=some o) (h':H b=none):a≠b:=by
 intro e;subst e;rw [h] at h';cases h'
section
variable (P:Program) (w:World)
def kG (H:Hp) (h:Heap) (a:Addr):HO->Prop
 | .lst xs=>xs.length<=sizeLine/\∃ (its:List Value) (n:Nat),cX xs its/\h.get? a=some { cls:=.type "list", data:=.seq its.toArray n }
 | .tup xs=>xs.length<=sizeLine/\∃ its:List Value,cX xs its/\IsTup h a its.toArray
 | .dK kvs=>kvs.length<=sizeLine/\(a==sysModules)=false/\∃ vs,KV kvs vs/\h.DictOf (zGZ P w) a vs
 | .dT kvs=>kvs.length<=sizeLine/\(a==sysModules)=false/\∃ xs:List (List Key×Addr×Value),
   Paired (fun (p:List Key×V) (q:List Key×Addr×Value)=>p.1=q.1/\H q.2.1=some (.tup (p.1.map kV))/\cP p.2 q.2.2) kvs xs/\
   ∃ o es ep,h.get? a=some o/\o.ExactDict/\o.data=.dict es ep/\es.toList=xs.map (entryOfKey (tupleKind (zGZ P w)))/\(xs.map (·.1)).Nodup
 | .set S n=>h.SetOf (intKind P w) a S n
 | .ins C dx fs=>H dx=some (.own a)/\fs.length<=1000/\dx≠a/\h.get? a=some (PySem.W.instObj C dx)/\
   ∃ mA,h.Ns1 dx mA/\(∀ f,zPj (fs.lookup f) (mA f))/\PySem.Within mA (fs.map (·.1))
 | .own _=>∃ o,h.get? a=some o
 | .xd fs=>∃ mA,h.Ns1 a mA/\∀ f,zPj (fs.lookup f) (mA f)
 | .rng lo hi=>∃ t u v,h.get? a=some { cls:=.type "range", data:=.fields #[.int lo t,.int hi u,.int 1 v] }
 | .frz o u=>h.get? a=some o/\kG H h a u
 | .tbl ps=>h.get? a=some { cls:=.none,data:=.fields ps }
 | .met f x=>h.get? a=some (PySem.W.methodObj (.ref f) (.ref x))
 | .ext φ=>φ h/\(∃ o,h.get? a=some o)/\∀ h1 h2:Heap,φ h1->(∀ o,h1.get? a=some o->h2.get? a=some o)->φ h2
def HOk (H:Hp) (h:Heap):Prop:=∀ a o,H a=some o->kG P w H h a o
end
section
variable {P:Program} {w:World} {H H':Hp} {h h':Heap} {a:Addr} {o:HO}
theorem kG.lt (x:kG P w H h a o):a < h.objs.size:=by
 cases o with
 | lst xs=>obtain ⟨_,_,_,_,e⟩:=x;exact Heap.lt_size e
 | tup xs=>obtain ⟨_,_,_,p⟩:=x;exact p.lt
 | dK kvs=>obtain ⟨_,_,_,_,o,_,_,e,_⟩:=x;exact Heap.lt_size e
 | dT kvs=>obtain ⟨_,_,_,_,o,_,_,e,_⟩:=x;exact Heap.lt_size e
 | set S n=>obtain ⟨o,_,_,_,e,_⟩:=x;exact Heap.lt_size e
 | ins C dx fs=>obtain ⟨_,_,_,e,_⟩:=x;exact Heap.lt_size e
 | own y=>obtain ⟨_,e⟩:=x;exact Heap.lt_size e
 | xd fs=>obtain ⟨_,⟨_,_,_,e,_⟩,_⟩:=x;exact Heap.lt_size e
 | rng lo hi=>obtain ⟨_,_,_,e⟩:=x;exact Heap.lt_size e
 | frz ob u=>obtain ⟨e,_⟩:=x;exact Heap.lt_size e
 | tbl ps=>exact Heap.lt_size (show h.get? a=some _ from x)
 | met f y=>exact Heap.lt_size (show h.get? a=some _ from x)
 | ext φ=>obtain ⟨_,⟨_,e⟩,_⟩:=x;exact Heap.lt_size e
theorem Paired.mapP {α β:Type} {F G:α->β->Prop}:∀ {l₁:List α} {l₂:List β},Paired F l₁ l₂->(∀ a b,F a b->G a b)->Paired G l₁ l₂
 | _,_,.nil,_=>.nil
 | _,_,.cons r t,f=>.cons (f _ _ r) (Paired.mapP t f)
theorem kG.stay (x:kG P w H h a o) (k:∀ b u,(b=a∨H b=some (.own a))->h.get? b=some u->h'.get? b=some u)
  (ho:∀ b,H b=some (.own a)->H' b=some (.own a)) (ht:∀ b xs,H b=some (.tup xs)->H' b=some (.tup xs)):kG P w H' h' a o:=by
 induction o with
 | lst xs=>obtain ⟨z,its,n,r,e⟩:=x;exact ⟨z,its,n,r,k _ _ (.inl rfl) e⟩
 | tup xs=>obtain ⟨z,its,r,ob,e,c⟩:=x;exact ⟨z,its,r,ob,k _ _ (.inl rfl) e,c⟩
 | dK kvs=>obtain ⟨z,y,vs,r,ob,es,ep,e,c⟩:=x;exact ⟨z,y,vs,r,ob,es,ep,k _ _ (.inl rfl) e,c⟩
 | dT kvs=>
  obtain ⟨z,y,xs,r,ob,es,ep,e,c⟩:=x
  exact ⟨z,y,xs,Paired.mapP r fun p q z=>⟨z.1,ht _ _ z.2.1,z.2.2⟩,ob,es,ep,k _ _ (.inl rfl) e,c⟩
 | set S n=>obtain ⟨ob,es,ep,t,e,c⟩:=x;exact ⟨ob,es,ep,t,k _ _ (.inl rfl) e,c⟩
 | ins C dx fs=>
  obtain ⟨d,z,ne,e,mA,⟨od,es,ep,e2,c⟩,r⟩:=x
  exact ⟨ho _ d,z,ne,k _ _ (.inl rfl) e,mA,⟨od,es,ep,k _ _ (.inr d) e2,c⟩,r⟩
 | own y=>obtain ⟨ob,e⟩:=x;exact ⟨ob,k _ _ (.inl rfl) e⟩
 | xd fs=>obtain ⟨mA,⟨od,es,ep,e,c⟩,r⟩:=x;exact ⟨mA,⟨od,es,ep,k _ _ (.inl rfl) e,c⟩,r⟩
 | rng lo hi=>obtain ⟨t,u,v,e⟩:=x;exact ⟨t,u,v,k _ _ (.inl rfl) e⟩
 | frz ob u ih=>obtain ⟨e,q⟩:=x;exact ⟨k _ _ (.inl rfl) e,ih q⟩
 | tbl ps=>
  have e:h.get? a=some { cls:=.none,data:=.fields ps }:=x
  show h'.get? a=some { cls:=.none,data:=.fields ps }
  exact k a _ (.inl rfl) e
 | met f y=>
  have e:h.get? a=some (PySem.W.methodObj (.ref f) (.ref y)):=x
  show h'.get? a=some (PySem.W.methodObj (.ref f) (.ref y))
  exact k a _ (.inl rfl) e
 | ext φ=>obtain ⟨p,⟨o,e⟩,st⟩:=x;exact ⟨st _ _ p fun o q=>k _ _ (.inl rfl) q,⟨o,k _ _ (.inl rfl) e⟩,st⟩
theorem HOk.lt (x:HOk P w H h) (e:H a=some o):a < h.objs.size:=(x a o e).lt
theorem HOk.fresh (x:HOk P w H h) (e:h.objs.size<=a):H a=none:=by
 cases q:H a with
 | none=>rfl
 | some u=>exact absurd (Nat.lt_of_lt_of_le (x.lt q) e) (Nat.lt_irrefl _)
theorem HOk.kept (x:HOk P w H h) (k:∀ b u,h.get? b=some u->h'.get? b=some u):HOk P w H h':=fun a o e=>
 (x a o e).stay (fun b u _ q=>k b u q) (fun _ q=>q) fun _ _ q=>q
theorem HOk.laid (x:HOk P w H h) (k:∀ b u,h.get? b=some u->h'.get? b=some u) (hp:h.objs.size<=a) (new:kG P w (upd H a o) h' a o):HOk P w (upd H a o) h':=fun b u e=>by
 have hn:=x.fresh hp
 by_cases hb:b=a
 ·subst hb;rw [aR] at e;cases e;exact new
 ·rw [aS hb] at e
  exact (x b u e).stay (fun c v _ q=>k c v q) (fun c q=>by rw [aS (aX q hn)];exact q) fun c xs q=>by rw [aS (aX q hn)];exact q
end
def Rd (H:Hp) (a:Addr) (u:HO):Prop:=H a=some u∨∃ o,H a=some (.frz o u)
theorem Rd.ok {P:Program} {w:World} {H:Hp} {h:Heap} {a:Addr} {u:HO} (r:Rd H a u) (x:HOk P w H h):kG P w H h a u:=by
 rcases r with r | ⟨o,r⟩
 ·exact x a u r
 ·obtain ⟨_,q⟩:=x a _ r
  exact q
def Mut:Option HO->Prop
 | some (.lst _)=>True
 | some (.dK _)=>True
 | some (.dT _)=>True
 | some (.set _ _)=>True
 | some (.ins _ _ _)=>True
 | some (.ext _)=>True
 | _=>False
section
variable {P:Program} {w:World} {H:Hp} {h h':Heap} {x e:Addr} {o':HO}
theorem HOk.write (ok:HOk P w H h) (mu:Mut (H x)) (he:e=x∨H e=some (.own x)) (k:∀ b u,b≠e->h.get? b=some u->h'.get? b=some u) (heo:∃ u,h'.get? e=some u)
  (new:kG P w (upd H x o') h' x o'):HOk P w (upd H x o') h':=fun b u q=>by
 have nown:∀ c y,H c=some (.own y)->c≠x:=fun c y r z=>by subst z;rw [r] at mu;exact mu
 have ntup:∀ c xs,H c=some (.tup xs)->c≠x:=fun c xs r z=>by subst z;rw [r] at mu;exact mu
 by_cases hb:b=x
 ·subst hb;rw [aR] at q;cases q;exact new
 ·rw [aS hb] at q
  by_cases hbe:b=e
  ·have q':H b=some (.own x):=by
    rcases he with z | z
    ·exact absurd (hbe.trans z) hb
    ·rw [hbe];exact z
   rw [q] at q';cases q'
   obtain ⟨v,hv⟩:=heo
   exact ⟨v,by rw [hbe];exact hv⟩
  ·refine (ok b u q).stay (fun c v hc r=>k c v ?_ r) (fun c r=>by rw [aS (nown c b r)];exact r) fun c xs r=>by rw [aS (ntup c xs r)];exact r
   rcases hc with rfl | hc
   ·exact hbe
   ·rintro rfl
    rcases he with z | z
    ·exact nown c b hc z
    ·rw [hc] at z;cases z;exact hb rfl
end
structure Un (fs ex:List Addr) (H H':Hp) (h h':Heap):Prop where
 keep:∀ b o,h.get? b=some o->H b=none->b∉fs->b∉ex->h'.get? b=some o
 slot:∀ b o,h.get? b=some o->H b=none->b∈fs->b∉ex->∃ sl,h'.get? b=some { o with slots:=sl }
 free:∀ b o,h.get? b=some o->H b=none->b∉ex->H' b=none
 there:∀ b o,h.get? b=some o->b∉ex->∃ o',h'.get? b=some o'
 tups:∀ b xs,H b=some (.tup xs)->H' b=some (.tup xs)
 frzs:∀ b o u,H b=some (.frz o u)->H' b=some (.frz o u)
 tbls:∀ b ps,H b=some (.tbl ps)->∃ more,H' b=some (.tbl (ps++more))
section
variable {fs fs' ex ex':List Addr} {H H1 H2:Hp} {h h1 h2 h':Heap} {a x e:Addr} {o:HO}
theorem Un.any (u:Un fs ex H H1 h h1) {b:Addr} {ob:Obj} (q:h.get? b=some ob) (n:H b=none) (hx:b∉ex):∃ sl,h1.get? b=some { ob with slots:=sl }:=by
 by_cases hb:b∈fs
 ·exact u.slot b ob q n hb hx
 ·exact ⟨ob.slots,u.keep b ob q n hb hx⟩
theorem Un.kept (k:∀ b u,h.get? b=some u->h'.get? b=some u):Un fs ex H H h h':=
 ⟨fun b ob q _ _ _=>k b ob q,fun b ob q _ _ _=>⟨ob.slots,k b ob q⟩,fun _ _ _ n _=>n,fun b ob q _=>⟨ob,k b ob q⟩,fun _ _ q=>q,fun _ _ _ q=>q,fun _ ps q=>⟨#[],by rw [q];simp⟩⟩
theorem Un.refl:Un fs ex H H h h:=Un.kept fun _ _ q=>q
theorem Un.laid (k:∀ b u,h.get? b=some u->h'.get? b=some u) (hp:h.objs.size<=a) (hn:H a=none):Un fs ex H (upd H a o) h h' where
 keep:=fun b u q _ _ _=>k b u q
 slot:=fun b u q _ _ _=>⟨u.slots,k b u q⟩
 free:=fun b u q n _=>by rw [aS (Nat.ne_of_lt (Nat.lt_of_lt_of_le (Heap.lt_size q) hp))];exact n
 there:=fun b u q _=>⟨u,k b u q⟩
 tups:=fun b xs q=>by rw [aS (aX q hn)];exact q
 frzs:=fun b u xs q=>by rw [aS (aX q hn)];exact q
 tbls:=fun b ps q=>⟨#[],by rw [aS (aX q hn),q];simp⟩
theorem Un.write (mu:Mut (H x)) (he:e=x∨H e=some (.own x)) (k:∀ b u,b≠e->h.get? b=some u->h'.get? b=some u) (heo:∃ u,h'.get? e=some u):Un fs ex H (upd H x o) h h':=by
 have hx:∀ b,H b=none->b≠x:=fun b n z=>by subst z;rw [n] at mu;exact mu
 have hb:∀ b,H b=none->b≠e:=fun b n z=>by
  subst z
  rcases he with r | r
  ·exact hx b n r
  ·rw [n] at r;cases r
 have hm:∀ b u,H b=some u->¬ Mut (some u)->b≠x:=fun b u q nm z=>by subst z;rw [q] at mu;exact nm mu
 refine ⟨fun b u q n _ _=>k b u (hb b n) q,fun b u q n _ _=>⟨u.slots,k b u (hb b n) q⟩,fun b u q n _=>by rw [aS (hx b n)];exact n,fun b u q _=>?_,
  fun b xs q=>by rw [aS (hm b _ q fun z=>z)];exact q,fun b u xs q=>by rw [aS (hm b _ q fun z=>z)];exact q,fun b ps q=>⟨#[],by rw [aS (hm b _ q fun z=>z),q];simp⟩⟩
 by_cases hbe:b=e
 ·subst hbe;exact heo
 ·exact ⟨u,k b u hbe q⟩
end
def trk (h:Heap) (H:Hp):List Addr:=(List.range h.objs.size).filter fun a=>(H a).isSome
def zHp (h:Heap) (H:Hp):Heap:=PySem.W.hideAll h (trk h H)
theorem zFF (h:Heap) (H:Hp):(zHp h H).objs.size=h.objs.size:=PySem.W.hideAll_size _ _
theorem zHR {h:Heap} {H:Hp} {b:Addr} {o:Obj} (e:h.get? b=some o) (n:H b=none):(zHp h H).get? b=some o:=
 PySem.W.hideAll_get _ e fun hm=>by
  have q:(H b).isSome=true:=(List.mem_filter.mp hm).2
  rw [n] at q;simp at q
theorem zJG {h:Heap} {H:Hp} {b:Addr} {o:Obj} (e:(zHp h H).get? b=some o):h.get? b=some o/\H b=none:=by
 have e':h.get? b=some o:=PySem.W.of_hideAll (trk h H) e
 refine ⟨e',?_⟩
 cases q:H b with
 | none=>rfl
 | some x=>
  have hm:b∈trk h H:=List.mem_filter.mpr ⟨List.mem_range.mpr (Heap.lt_size e'),by simp [q]⟩
  have z:(zHp h H).get? b=none:=PySem.W.hideAll_none (trk h H) hm
  rw [z] at e;cases e
def zLw (g h:Heap) (L:Addr):List (Addr×Obj):=(List.range h.objs.size).filterMap fun a=>if a=L∨(g.get? a).isSome=true then none else (h.get? a).map fun o=>(a,o)
def rest (g h:Heap) (L d:Addr):List (Addr×Obj):=(zLw g h L).filter fun p=>decide (p.1≠d)
end L2
namespace L2
open PySem PySem.Spec PyProof.Rows
structure Mod (K:PySem.W.Frag) (mg:Str->Option Value) (base:Heap):Prop where
 kin:K.In base
 glob:base.Ns mainGlobals mg
 blt:∃ mb,base.Ns builtinsNs mb/\∀ x:Str,x ≠ "__name__" -> mb x=bootBuiltins x
 nolimit:base.NoLimit
structure Cx where
 prog:Program
 w:World
 K:PySem.W.Frag
 mg:Str->Option Value
 base:Heap
 A:Around
 N:List Str
 s₀:Shared
 H₀:Hp
 env:Env
 outer:List Env
 stack:List Env
 ex:List Addr
 fn:Str->Bool
 calm:Bool
 pn:List (Addr×Obj)
 xe:Value->Shared->Prop
def frs (l:List Env):List Addr:=l.filterMap (·.frame)
abbrev Cx.fs (X:Cx):List Addr:=frs X.outer
def Vis (sc:Scope) (x:Str):Prop:=sc.names.lookup x=some .local∨sc.names.lookup x=some .cell∨sc.names.lookup x=some .free
def Loc (sc:Scope) (x:Str):Prop:=sc.names.lookup x=some .local∨sc.names.lookup x=some .cell
def zPD (env:Env) (h:Heap) (m:Str->Option Value) (x:Str) (u:Value):Prop:=
 (env.kindOf x=some .local/\m x=some u)∨((env.kindOf x=some .cell∨env.kindOf x=some .free)/\∃ c,env.cells.lookup x=some c/\h.IsCell c (some u))
structure Cx.Ok (X:Cx):Prop where
 mod:Mod X.K X.mg X.base
 kind:X.env.scope.kind=.function
 glob:X.env.globals=mainGlobals
 blt:X.env.builtins=builtinsNs
 above:X.s₀.heap.objs.size<=X.env.locals
 inj:∀ x y c,X.env.cells.lookup x=some c->X.env.cells.lookup y=some c->x=y
 has:∀ x,(X.env.kindOf x=some .cell∨X.env.kindOf x=some .free)->∃ c,X.env.cells.lookup x=some c
 cab:∀ x c,X.fn x=true->X.env.cells.lookup x=some c->X.s₀.heap.objs.size<=c
 hd:X.calm=true->X.A.handled=none
 frames:X.A.frames=some X.stack
 stk:X.stack=X.outer∨(X.stack=X.env::X.outer/\X.env.frame=some X.env.locals)
 exf:∀ b∈X.ex,b≠X.env.locals/\∀ x c,X.env.cells.lookup x=some c->c≠b
 bs:∀ b o,X.base.get? b=some o->X.s₀.heap.get? b=some o/\X.H₀ b=none
 bsz:X.base.objs.size<=X.s₀.heap.objs.size
 noex:∀ b o,X.base.get? b=some o->b∉X.ex
 exfs:∀ b∈X.ex,b∉X.fs
 funs:X.s₀.heap.FunFrames X.base X.outer
 frf:∀ b∈X.fs,X.H₀ b=none
structure Inv (X:Cx) (pins:List (Addr×Obj)) (σ:List (Option V)) (H:Hp) (s:Shared):Prop where
 ok:X.Ok
 os:s.os=X.s₀.os
 bare:AllBare s.gens
 base:Un X.fs X.ex X.H₀ H X.s₀.heap s.heap
 loc:∃ m,s.heap.Ns X.env.locals m/\∀ (i:Nat) (x:Str) (v:V),X.N[i]?=some x->σ[i]?=some (some v)->Vis X.env.scope x->∃ u,cP v u/\zPD X.env s.heap m x u
 cell:∀ x c,X.env.cells.lookup x=some c->∃ v,s.heap.IsCell c v
 free:H X.env.locals=none
 freeC:∀ x c,X.env.cells.lookup x=some c->H c=none
 pin:∀ p∈X.pn++pins,s.heap.get? p.1=some p.2/\H p.1=none/\p.1≠X.env.locals/\p.1∉X.fs/\∀ v,p.2.data≠.cell v
 hok:HOk X.prog X.w H s.heap
 len:σ.length=X.N.length
section
variable {X:Cx} {pins:List (Addr×Obj)} {σ:List (Option V)} {H H':Hp} {s:Shared} {h':Heap}
theorem Cx.Ok.nofr (ok:X.Ok) {b:Addr} {o:Obj} (e:X.base.get? b=some o):b∉X.fs:=fun hb=>by
 have:=(ok.funs.mem hb).1
 rw [e] at this;cases this
theorem Inv.bs (I:Inv X pins σ H s):∀ b o,X.base.get? b=some o->s.heap.get? b=some o/\H b=none:=fun b o e=>
 ⟨I.base.keep b o (I.ok.bs b o e).1 (I.ok.bs b o e).2 (I.ok.nofr e) (I.ok.noex b o e),I.base.free b o (I.ok.bs b o e).1 (I.ok.bs b o e).2 (I.ok.noex b o e)⟩
theorem Inv.bk (I:Inv X pins σ H s):∀ b o,X.base.get? b=some o->s.heap.get? b=some o:=fun b o e=>(I.bs b o e).1
theorem Inv.mod (I:Inv X pins σ H s):Mod X.K X.mg X.base:=I.ok.mod
theorem Inv.kIn (I:Inv X pins σ H s):X.K.In s.heap:=I.ok.mod.kin.keeps I.bk
theorem Inv.lt (I:Inv X pins σ H s):X.env.locals < s.heap.objs.size:=let ⟨_,hn,_⟩:=I.loc;hn.lt
theorem Inv.sz (I:Inv X pins σ H s):X.s₀.heap.objs.size<=s.heap.objs.size:=Nat.le_trans I.ok.above (Nat.le_of_lt I.lt)
theorem Inv.nofs (I:Inv X pins σ H s) {a:Addr} (h:s.heap.objs.size<=a):a∉X.fs:=fun hb=>by
 obtain ⟨_,o,ho,_⟩:=I.ok.funs.mem hb
 exact absurd (Nat.lt_of_lt_of_le (Heap.lt_size ho) (Nat.le_trans I.sz h)) (Nat.lt_irrefl _)
theorem Inv.cne (I:Inv X pins σ H s):∀ x c,X.env.cells.lookup x=some c->c≠X.env.locals:=fun x c e z=>by
 obtain ⟨v,o,ho,hd⟩:=I.cell x c e
 obtain ⟨m,⟨o',es,ep,ho',hd',_⟩,_⟩:=I.loc
 rw [z,ho'] at ho;cases ho;rw [hd'] at hd;cases hd
theorem Inv.funs (I:Inv X pins σ H s):s.heap.FunFrames X.base X.outer:=by
 have all:∀ (l:List Env),(∀ b∈frs l,b∈X.fs)->X.s₀.heap.FunFrames X.base l->s.heap.FunFrames X.base l:=by
  intro l
  induction l with
  | nil=>intro _ _;trivial
  | cons env r ih=>
   intro hs hl
   obtain ⟨hk,⟨L,o,hf,hn,ho,hd⟩,hr⟩:=hl
   have hL:L∈X.fs:=hs L (by unfold frs;rw [List.filterMap_cons,hf];exact List.mem_cons_self)
   obtain ⟨sl,e⟩:=I.base.slot L o ho (I.ok.frf L hL) hL fun z=>I.ok.exfs L z hL
   exact ⟨hk,⟨L,_,hf,hn,e,hd⟩,ih (fun b hb=>hs b (by unfold frs;rw [List.filterMap_cons,hf];exact List.mem_cons_of_mem _ hb)) hr⟩
 exact all X.outer (fun _ hb=>hb) I.ok.funs
theorem Inv.stack (I:Inv X pins σ H s):s.heap.FunFrames X.base X.stack:=by
 rcases I.ok.stk with e | ⟨e,hf⟩
 ·rw [e];exact I.funs
 ·rw [e]
  obtain ⟨m,hn,_⟩:=I.loc
  refine .cons (by rw [I.ok.kind];decide) hf hn ?_ I.funs
  exact Heap.get?_none_of_le (Nat.le_trans I.ok.bsz I.ok.above)
theorem Inv.stkSub (I:Inv X pins σ H s):∀ b∈frs X.stack,b∈X.env.locals::X.fs:=fun b hb=>by
 rcases I.ok.stk with e | ⟨e,hf⟩
 ·rw [e] at hb;exact List.mem_cons_of_mem _ hb
 ·rw [e] at hb
  unfold frs at hb
  rw [List.filterMap_cons,hf] at hb
  exact hb
theorem Inv.stkFree (I:Inv X pins σ H s):∀ b∈frs X.stack,H b=none:=fun b hb=>by
 rcases List.mem_cons.mp (I.stkSub b hb) with e | hb
 ·rw [e];exact I.free
 ·obtain ⟨_,o,ho,_⟩:=I.ok.funs.mem hb
  exact I.base.free b o ho (I.ok.frf b hb) fun z=>I.ok.exfs b z hb
theorem Inv.step {g':Array GenState} {t':Nat} {d':Drawn} {ch:List Addr} (I:Inv X pins σ H s)
  (hch:∀ b∈ch,(b∈X.ex∨X.s₀.heap.objs.size<=b)/\b≠X.env.locals/\(∀ x c,X.env.cells.lookup x=some c->c≠b)/\∀ p∈X.pn++pins,p.1≠b)
  (keep:∀ b o,b≠X.env.locals->b∉X.fs->b∉ch->s.heap.get? b=some o->H b=none->h'.get? b=some o)
  (slot:∀ b o,b≠X.env.locals->b∈X.fs->b∉ch->s.heap.get? b=some o->H b=none->∃ sl,h'.get? b=some { o with slots:=sl }) (free:∀ b o,b∉ch->s.heap.get? b=some o->H b=none->H' b=none)
  (there:∀ b o,b∉ch->s.heap.get? b=some o->∃ o',h'.get? b=some o')
  (tups:∀ b xs,H b=some (.tup xs)->H' b=some (.tup xs)) (frzs:∀ b o u,H b=some (.frz o u)->H' b=some (.frz o u)) (tbls:∀ b ps,H b=some (.tbl ps)->∃ more,H' b=some (.tbl (ps++more)))
  (ns:∀ m,s.heap.Ns X.env.locals m->h'.Ns X.env.locals m) (hok:HOk X.prog X.w H' h') (hg:AllBare g'):
  Inv X pins σ H' { s with heap:=h',gens:=g',drawn:=d',toks:=t' }:=by
 have neL:∀ b o,X.s₀.heap.get? b=some o->b≠X.env.locals:=fun b o e=>Nat.ne_of_lt (Nat.lt_of_lt_of_le (Heap.lt_size e) I.ok.above)
 have neC:∀ b o,X.s₀.heap.get? b=some o->b∉X.ex->b∉ch:=fun b o e hx hb=>by
  rcases (hch b hb).1 with z | z
  ·exact hx z
  ·exact absurd (Nat.lt_of_lt_of_le (Heap.lt_size e) z) (Nat.lt_irrefl _)
 have cellK:∀ x c,X.env.cells.lookup x=some c->∀ v,s.heap.IsCell c v->h'.IsCell c v:=fun x c e v ⟨o,ho,hd⟩=>by
  have nch:c∉ch:=fun z=>(hch c z).2.2.1 x c e rfl
  by_cases hc:c∈X.fs
  ·obtain ⟨sl,q⟩:=slot c o (I.cne x c e) hc nch ho (I.freeC x c e)
   exact ⟨_,q,hd⟩
  ·exact ⟨o,keep c o (I.cne x c e) hc nch ho (I.freeC x c e),hd⟩
 refine ⟨I.ok,I.os,hg,⟨fun b o e n hb hx=>?_,fun b o e n hb hx=>?_,fun b o e n hx=>?_,fun b o e hx=>?_,fun b xs e=>tups b xs (I.base.tups b xs e),fun b o xs e=>frzs b o xs (I.base.frzs b o xs e),fun b ps e=>?_⟩,?_,fun x c e=>?_,?_,fun x c e=>?_,fun p hp=>?_,hok,I.len⟩
 ·exact keep b o (neL b o e) hb (neC b o e hx) (I.base.keep b o e n hb hx) (I.base.free b o e n hx)
 ·obtain ⟨sl,e1⟩:=I.base.slot b o e n hb hx
  obtain ⟨sl',e2⟩:=slot b _ (neL b o e) hb (neC b o e hx) e1 (I.base.free b o e n hx)
  exact ⟨sl',e2⟩
 ·obtain ⟨o',e1⟩:=I.base.there b o e hx
  exact free b o' (neC b o e hx) e1 (I.base.free b o e n hx)
 ·obtain ⟨o',e1⟩:=I.base.there b o e hx
  exact there b o' (neC b o e hx) e1
 ·obtain ⟨m1,e1⟩:=I.base.tbls b ps e
  obtain ⟨m2,e2⟩:=tbls b _ e1
  exact ⟨m1++m2,by rw [e2,Array.append_assoc]⟩
 ·obtain ⟨m,hn,hl⟩:=I.loc
  refine ⟨m,ns m hn,fun i x v e1 e2 e3=>?_⟩
  obtain ⟨u,r,l⟩:=hl i x v e1 e2 e3
  refine ⟨u,r,?_⟩
  rcases l with l | ⟨k,c,e,z⟩
  ·exact .inl l
  ·exact .inr ⟨k,c,e,cellK x c e _ z⟩
 ·obtain ⟨v,z⟩:=I.cell x c e
  exact ⟨v,cellK x c e v z⟩
 ·obtain ⟨m,⟨o,_,_,ho,_⟩,_⟩:=I.loc
  exact free _ o (fun z=>(hch _ z).2.1 rfl) ho I.free
 ·obtain ⟨v,o,ho,hd⟩:=I.cell x c e
  exact free c o (fun z=>(hch c z).2.2.1 x c e rfl) ho (I.freeC x c e)
 ·obtain ⟨e,n,ne,nf,d⟩:=I.pin p hp
  have nch:p.1∉ch:=fun z=>(hch p.1 z).2.2.2 p hp rfl
  exact ⟨keep p.1 p.2 ne nf nch e n,free p.1 p.2 nch e n,ne,nf,d⟩
theorem Inv.un {t':Nat} (I:Inv X pins σ H s) (u:Un X.fs [] H H' s.heap h') (hok:HOk X.prog X.w H' h'):Inv X pins σ H' { s with heap:=h',toks:=t' }:=by
 obtain ⟨m,⟨o,es,ep,ho,r⟩,_⟩:=id I.loc
 obtain ⟨sl,hL⟩:=u.any ho I.free (by simp)
 exact I.step (g':=s.gens) (d':=s.drawn) (ch:=[]) (fun _ z=>nomatch z) (fun b o _ hb _ e n=>u.keep b o e n hb (by simp)) (fun b o _ hb _ e n=>u.slot b o e n hb (by simp)) (fun b o _ e n=>u.free b o e n (by simp)) (fun b o _ e=>u.there b o e (by simp)) u.tups u.frzs u.tbls (fun m' hm=>by
  obtain ⟨o',es',ep',ho',r'⟩:=hm
  rw [ho] at ho';cases ho'
  exact ⟨_,es',ep',hL,r'⟩) hok I.bare
theorem Inv.call {g':Array GenState} {t':Nat} {d':Drawn} {ch:List Addr} (I:Inv X pins σ H s) (u:Un (frs X.stack) ch H H' s.heap h') (hok:HOk X.prog X.w H' h') (hg:AllBare g')
  (hch:∀ b∈ch,(b∈X.ex∨X.s₀.heap.objs.size<=b)/\b≠X.env.locals/\(∀ x c,X.env.cells.lookup x=some c->c≠b)/\∀ p∈X.pn++pins,p.1≠b):
  Inv X pins σ H' { s with heap:=h',gens:=g',drawn:=d',toks:=t' }:=by
 obtain ⟨m,⟨o,es,ep,ho,r⟩,_⟩:=id I.loc
 obtain ⟨sl,hL⟩:=u.any ho I.free fun z=>(hch _ z).2.1 rfl
 exact I.step (ch:=ch) hch (fun b o hL hb hc e n=>u.keep b o e n (fun z=>(List.mem_cons.mp (I.stkSub b z)).elim hL hb) hc) (fun b o _ _ hc e n=>u.any e n hc) (fun b o hc e n=>u.free b o e n hc) (fun b o hc e=>u.there b o e hc) u.tups u.frzs u.tbls (fun m' hm=>by
  obtain ⟨o',es',ep',ho',r'⟩:=hm
  rw [ho] at ho';cases ho'
  exact ⟨_,es',ep',hL,r'⟩) hok hg
theorem Inv.turned {t':Nat} {it:Addr} (I:Inv X pins σ H s) (k:∀ b o,b≠it->s.heap.get? b=some o->h'.get? b=some o) (hn:H it=none) (hL:it≠X.env.locals)
  (h1:it∈X.ex∨X.s₀.heap.objs.size<=it) (h2:∀ x c,X.env.cells.lookup x=some c->c≠it) (h3:∀ p∈X.pn++pins,p.1≠it):Inv X pins σ H { s with heap:=h',toks:=t' }:=by
 have nit:∀ b u,H b=some u->b≠it:=fun b u e z=>by rw [z,hn] at e;cases e
 refine I.step (g':=s.gens) (d':=s.drawn) (ch:=[it]) (fun b hb=>?_) (fun b o _ _ hc e _=>k b o (fun z=>hc (by simp [z])) e) (fun b o _ _ hc e _=>⟨o.slots,k b o (fun z=>hc (by simp [z])) e⟩) (fun _ _ _ _ n=>n)
  (fun b o hc e=>⟨o,k b o (fun z=>hc (by simp [z])) e⟩) (fun _ _ e=>e) (fun _ _ _ e=>e) (fun b ps e=>⟨#[],by rw [e];simp⟩) (fun m hm=>?_) (fun b u e=>?_) I.bare
 ·have e:b=it:=by simpa using hb
  subst e
  exact ⟨h1,hL,h2,h3⟩
 ·obtain ⟨o,es,ep,ho,r⟩:=hm
  exact ⟨o,es,ep,k _ o (Ne.symm hL) ho,r⟩
 ·refine (I.hok b u e).stay (fun c v hc q=>k c v ?_ q) (fun _ q=>q) fun _ _ q=>q
  rcases hc with z | z
  ·rw [z];exact nit b u e
  ·exact nit c _ z
theorem Inv.tok (I:Inv X pins σ H s) (t:Nat):Inv X pins σ H { s with toks:=t }:=I.un (h':=s.heap) (t':=t) Un.refl I.hok
theorem Inv.kept {t':Nat} (I:Inv X pins σ H s) (k:∀ b u,s.heap.get? b=some u->h'.get? b=some u):Inv X pins σ H { s with heap:=h',toks:=t' }:=I.un (Un.kept k) (I.hok.kept k)
theorem Inv.laid {a:Addr} {o:HO} {t':Nat} (I:Inv X pins σ H s) (k:∀ b u,s.heap.get? b=some u->h'.get? b=some u) (hp:s.heap.objs.size<=a) (new:kG X.prog X.w (upd H a o) h' a o):
  Inv X pins σ (upd H a o) { s with heap:=h',toks:=t' }:=I.un (Un.laid k hp (I.hok.fresh hp)) (I.hok.laid k hp new)
theorem Inv.write {x e:Addr} {o:HO} {t':Nat} (I:Inv X pins σ H s) (mu:Mut (H x)) (he:e=x∨H e=some (.own x)) (k:∀ b u,b≠e->s.heap.get? b=some u->h'.get? b=some u) (heo:∃ u,h'.get? e=some u)
  (new:kG X.prog X.w (upd H x o) h' x o):Inv X pins σ (upd H x o) { s with heap:=h',toks:=t' }:=I.un (Un.write mu he k heo) (I.hok.write mu he k heo new)
theorem Inv.pins_of {pins':List (Addr×Obj)} (I:Inv X pins σ H s) (h:∀ p∈pins',s.heap.get? p.1=some p.2/\H p.1=none/\p.1≠X.env.locals/\p.1∉X.fs/\∀ v,p.2.data≠.cell v):Inv X pins' σ H s:=
 ⟨I.ok,I.os,I.bare,I.base,I.loc,I.cell,I.free,I.freeC,fun p hp=>(List.mem_append.mp hp).elim (fun z=>I.pin p (List.mem_append_left _ z)) (h p),I.hok,I.len⟩
theorem zDm {N:List Str} (hN:N.Nodup) {i j:Nat} {x:Str} (a:N[i]?=some x) (b:N[j]?=some x):i=j:=by
 obtain ⟨h1,e1⟩:=List.getElem?_eq_some_iff.mp a
 obtain ⟨h2,e2⟩:=List.getElem?_eq_some_iff.mp b
 exact (List.getElem_inj hN).mp (e1.trans e2.symm)
theorem zAO {M:Model} {A:Around} {E:Value->Shared->Prop} {i:Nat} {x:Str} {v:V} {u:Value} {Q:Unit->Shared->Prop} (I:Inv X pins σ H s) (hN:X.N.Nodup) (hi:X.N[i]?=some x) (hx:Loc X.env.scope x) (r:cP v u)
  (h:∀ s',Inv X pins (σ.set i (some v)) H s'->(∃ a,Heap.SameBut a s.heap s'.heap/\(a=X.env.locals∨X.env.cells.lookup x=some a))->Q () s') (hf:X.fn x=true∨X.env.scope.names.lookup x=some .local:=by first | exact .inl rfl | exact .inr rfl | assumption):wpAny M A (storeName X.env x u) Q E s:=by
 obtain ⟨m,hn,hl⟩:=id I.loc
 have hcls:(X.env.scope.kind==.class || (X.env.scope.kind==.module && X.env.locals != X.env.globals))=false:=by rw [I.ok.kind];rfl
 have hiσ:i < σ.length:=by rw [I.len];exact (List.getElem?_eq_some_iff.mp hi).1
 have cne:=I.cne
 have tracked:∀ {a:Addr} {h':Heap},(∃ o,s.heap.get? a=some o/\H a=none)->Heap.SameBut a s.heap h'->HOk X.prog X.w H h':=fun {a h'} ha hs b ob e=>by
  obtain ⟨_,_,hfree⟩:=ha
  refine (I.hok b ob e).stay (fun c w' hc q=>(hs.2 c ?_).trans q) (fun _ q=>q) fun _ _ q=>q
  rintro rfl
  rcases hc with rfl | hc
  ·rw [hfree] at e;cases e
  ·rw [hfree] at hc;cases hc
 rcases hx with hk | hk
 ·refine wpAny_storeName_local hk hn (fun h' hn' hs=>?_) hcls
  obtain ⟨oL,_,_,hoL,_⟩:=id hn
  refine h _ ⟨I.ok,I.os,I.bare,⟨fun b o e n hb hx=>?_,fun b o e n hb hx=>?_,I.base.free,fun b o e hx=>?_,I.base.tups,I.base.frzs,I.base.tbls⟩,⟨_,hn',fun j y v' e1 e2 e3=>?_⟩,fun y c e=>?_,I.free,I.freeC,fun p hp=>?_,tracked ⟨oL,hoL,I.free⟩ hs,by simpa using I.len⟩ ⟨_,hs,.inl rfl⟩
  ·exact (hs.2 b (Nat.ne_of_lt (Nat.lt_of_lt_of_le (Heap.lt_size e) I.ok.above))).trans (I.base.keep b o e n hb hx)
  ·obtain ⟨sl,e1⟩:=I.base.slot b o e n hb hx
   exact ⟨sl,(hs.2 b (Nat.ne_of_lt (Nat.lt_of_lt_of_le (Heap.lt_size e) I.ok.above))).trans e1⟩
  ·obtain ⟨o',e1⟩:=I.base.there b o e hx
   exact ⟨o',(hs.2 b (Nat.ne_of_lt (Nat.lt_of_lt_of_le (Heap.lt_size e) I.ok.above))).trans e1⟩
  ·by_cases hj:j=i
   ·subst hj
    rw [hi] at e1;cases e1
    rw [List.getElem?_set_self hiσ] at e2
    cases e2
    exact ⟨u,r,.inl ⟨hk,by simp⟩⟩
   ·rw [List.getElem?_set_ne (Ne.symm hj)] at e2
    obtain ⟨u',r',q⟩:=hl j y v' e1 e2 e3
    refine ⟨u',r',?_⟩
    rcases q with ⟨k,e⟩ | ⟨k,c,e,z⟩
    ·refine .inl ⟨k,?_⟩
     have:y≠x:=fun e=>hj (zDm hN e1 (e ▸ hi))
     simp [this,e]
    ·exact .inr ⟨k,c,e,z.sameBut hs (cne y c e)⟩
  ·obtain ⟨w',z⟩:=I.cell y c e
   exact ⟨w',z.sameBut hs (cne y c e)⟩
  ·obtain ⟨e,n,ne,nf,d⟩:=I.pin p hp
   exact ⟨(hs.2 p.1 ne).trans e,n,ne,nf,d⟩
 ·have hfn:X.fn x=true:=by
   rcases hf with z | z
   ·exact z
   ·rw [z] at hk;cases hk
  obtain ⟨c,hc⟩:=I.ok.has x (.inl hk)
  obtain ⟨w',z⟩:=I.cell x c hc
  refine wpAny_storeName_cell I.ok.kind hk hc z (fun h' hc' hs=>?_)
  obtain ⟨oc,hoc,hocd⟩:=id z
  refine h { s with heap:=h' } ⟨I.ok,I.os,I.bare,⟨fun b o e n hb hx=>?_,fun b o e n hb hx=>?_,I.base.free,fun b o e hx=>?_,I.base.tups,I.base.frzs,I.base.tbls⟩,⟨m,hn.sameBut hs (Ne.symm (cne x c hc)),fun j y v' e1 e2 e3=>?_⟩,fun y c' e=>?_,I.free,I.freeC,fun p hp=>?_,tracked ⟨oc,hoc,I.freeC x c hc⟩ hs,by simpa using I.len⟩ ⟨c,hs,.inr hc⟩
  ·exact (hs.2 b (Nat.ne_of_lt (Nat.lt_of_lt_of_le (Heap.lt_size e) (I.ok.cab x c hfn hc)))).trans (I.base.keep b o e n hb hx)
  ·obtain ⟨sl,e1⟩:=I.base.slot b o e n hb hx
   exact ⟨sl,(hs.2 b (Nat.ne_of_lt (Nat.lt_of_lt_of_le (Heap.lt_size e) (I.ok.cab x c hfn hc)))).trans e1⟩
  ·obtain ⟨o',e1⟩:=I.base.there b o e hx
   exact ⟨o',(hs.2 b (Nat.ne_of_lt (Nat.lt_of_lt_of_le (Heap.lt_size e) (I.ok.cab x c hfn hc)))).trans e1⟩
  ·by_cases hj:j=i
   ·subst hj
    rw [hi] at e1;cases e1
    rw [List.getElem?_set_self hiσ] at e2
    cases e2
    exact ⟨u,r,.inr ⟨.inl hk,c,hc,hc'⟩⟩
   ·rw [List.getElem?_set_ne (Ne.symm hj)] at e2
    obtain ⟨u',r',q⟩:=hl j y v' e1 e2 e3
    refine ⟨u',r',?_⟩
    rcases q with q | ⟨k,c',e,z'⟩
    ·exact .inl q
    ·refine .inr ⟨k,c',e,z'.sameBut hs ?_⟩
     rintro rfl
     exact hj (zDm hN e1 (I.ok.inj _ _ _ e hc ▸ hi))
  ·by_cases hcc:c'=c
   ·subst hcc;exact ⟨_,hc'⟩
   ·obtain ⟨w2,z2⟩:=I.cell y c' e
    exact ⟨w2,z2.sameBut hs hcc⟩
  ·obtain ⟨e,n,ne,nf,d⟩:=I.pin p hp
   refine ⟨(hs.2 p.1 ?_).trans e,n,ne,nf,d⟩
   intro q
   rw [q,hoc] at e
   have q':oc=p.2:=Option.some.inj e
   exact d w' (by rw [<-q'];exact hocd)
theorem rG {M:Model} {A:Around} {E:Value->Shared->Prop} {i:Nat} {x:Str} {v:V} {u:Value} {Q:Unit->Shared->Prop} (I:Inv X pins σ H s) (hN:X.N.Nodup) (hi:X.N[i]?=some x) (hx:Loc X.env.scope x) (r:cP v u)
  (h:∀ s',Inv X pins (σ.set i (some v)) H s'->Q () s') (hf:X.fn x=true∨X.env.scope.names.lookup x=some .local:=by first | exact .inl rfl | exact .inr rfl | assumption):wpAny M A (storeName X.env x u) Q E s:=
 zAO I hN hi hx r (fun s' I' _=>h s' I') hf
theorem Inv.call' {s':Shared} {ch:List Addr} (I:Inv X pins σ H s) (ho:s'.os=s.os) (u:Un (frs X.stack) ch H H' s.heap s'.heap) (hok:HOk X.prog X.w H' s'.heap) (hg:AllBare s'.gens)
  (hch:∀ b∈ch,(b∈X.ex∨X.s₀.heap.objs.size<=b)/\b≠X.env.locals/\(∀ x c,X.env.cells.lookup x=some c->c≠b)/\∀ p∈X.pn++pins,p.1≠b):Inv X pins σ H' s':=by
 obtain ⟨h',g',d',t',o'⟩:=s'
 have e:o'=s.os:=ho
 subst e
 exact I.call (g':=g') (t':=t') (d':=d') u hok hg hch
end
abbrev XK:=Value->Option Addr->Hp->Prop
abbrev St:=List (Option V)
abbrev VK:=V->Hp->Prop
abbrev TE:=St->Hp->VK->Prop
abbrev TT:=St->Hp->(Bool->Hp->Prop)->Prop
abbrev TA:=St->Hp->(List V->Hp->Prop)->Prop
structure Ends where
 nx:St->Hp->Prop
 rt:VK
 bk:St->Hp->Prop:=fun _ _=>False
 ct:St->Hp->Prop:=fun _ _=>False
abbrev TS:=Ends->St->Hp->Prop
def EP (X:Cx) (pins:List (Addr×Obj)) (σ:St) (Q:VK) (u:Value) (s':Shared):Prop:=∃ v H',Inv X pins σ H' s'/\cP v u/\Q v H'
def TP (X:Cx) (pins:List (Addr×Obj)) (σ:St) (Q:Bool->Hp->Prop) (b:Bool) (s':Shared):Prop:=∃ H',Inv X pins σ H' s'/\Q b H'
def AP (X:Cx) (pins:List (Addr×Obj)) (σ:St) (Q:List V->Hp->Prop) (us:List Value) (s':Shared):Prop:=∃ vs H',Inv X pins σ H' s'/\cX vs us/\Q vs H'
def SP (X:Cx) (pins:List (Addr×Obj)) (D:Ends) (f:Flow) (s':Shared):Prop:=
 match f with
 | .next=>∃ σ' H',Inv X pins σ' H' s'/\D.nx σ' H'
 | .brk=>∃ σ' H',Inv X pins σ' H' s'/\D.bk σ' H'
 | .cont=>∃ σ' H',Inv X pins σ' H' s'/\D.ct σ' H'
 | .ret u=>∃ v σ' H',Inv X pins σ' H' s'/\cP v u/\D.rt v H'
def PE (X:Cx) (e:Expr) (t:TE):Prop:=
 ∀ (pins:List (Addr×Obj)) (s:Shared) (σ:St) (H:Hp) (Q:VK),Inv X pins σ H s->t σ H Q->wpAny (model X.prog X.w) X.A (eval e X.env) (EP X pins σ Q) X.xe s
def PT (X:Cx) (e:Expr) (t:TT):Prop:=
 ∀ (pins:List (Addr×Obj)) (s:Shared) (σ:St) (H:Hp) (Q:Bool->Hp->Prop),Inv X pins σ H s->t σ H Q->wpAny (model X.prog X.w) X.A (isTrue e X.env (eval e X.env)) (TP X pins σ Q) X.xe s
def PW (X:Cx) (e:Expr) (t:TT):Prop:=
 ∀ (whole:Sem Value) (pins:List (Addr×Obj)) (s:Shared) (σ:St) (H:Hp) (Q:Bool->Hp->Prop),Inv X pins σ H s->t σ H Q->wpAny (model X.prog X.w) X.A (isTrue e X.env whole) (TP X pins σ Q) X.xe s
theorem PW.pt {X:Cx} {e:Expr} {t:TT} (h:PW X e t):PT X e t:=h _
def PA (X:Cx) (es:List Expr) (t:TA):Prop:=
 ∀ (pos:Pos) (pins:List (Addr×Obj)) (s:Shared) (σ:St) (H:Hp) (Q:List V->Hp->Prop),Inv X pins σ H s->t σ H Q->wpAny (model X.prog X.w) X.A (spliced (backTo pos (starEach es X.env))) (AP X pins σ Q) X.xe s
def PS (X:Cx) (st:Stmt) (t:TS):Prop:=
 ∀ (pins:List (Addr×Obj)) (s:Shared) (σ:St) (H:Hp) (D:Ends),Inv X pins σ H s->t D σ H->wpAny (model X.prog X.w) X.A (exec st X.env) (SP X pins D) X.xe s
def PSs (X:Cx) (st:List Stmt) (t:TS):Prop:=
 ∀ (pins:List (Addr×Obj)) (s:Shared) (σ:St) (H:Hp) (D:Ends),Inv X pins σ H s->t D σ H->wpAny (model X.prog X.w) X.A (execs st X.env) (SP X pins D) X.xe s
theorem thn {α:Type} {t:Sem α} {Q Q':α->Shared->Prop} {M:Model} {A:Around} {E:Value->Shared->Prop} {s:Shared} (h:wpAny M A t Q E s) (hQ:∀ a s,Q a s->Q' a s):wpAny M A t Q' E s:=wpAny_mono h hQ fun _ _ x=>x
end L2
namespace L2
open PySem PySem.Spec PyProof.Rows
section
variable {X:Cx}
theorem bin {a b:Expr} {ta tb:TE} (ha:PE X a ta) (hb:PE X b tb) {pins:List (Addr×Obj)} {s:Shared} {σ:St} {H:Hp} {R:V->V->Hp->Prop} (I:Inv X pins σ H s) (h:ta σ H fun x H1=>tb σ H1 fun y H2=>R x y H2)
  {α:Type} {Q:α->Shared->Prop} {f:Value->Value->Sem α}
  (hf:∀ v u s2 x y H2,Inv X pins σ H2 s2->cP x v->cP y u->R x y H2->wpAny (model X.prog X.w) X.A (f v u) Q X.xe s2):
  wpAny (model X.prog X.w) X.A (eval a X.env) (fun v s₁=>wpAny (model X.prog X.w) X.A (eval b X.env) (fun u s₂=>wpAny (model X.prog X.w) X.A (f v u) Q X.xe s₂) X.xe s₁) X.xe s:=by
 refine thn (ha pins s σ H _ I h) fun v s1 ⟨x,H1,I1,r1,q1⟩=>?_
 refine thn (hb pins s1 σ H1 _ I1 q1) fun u s2 ⟨y,H2,I2,r2,q2⟩=>?_
 exact hf v u s2 x y H2 I2 r1 r2 q2
abbrev uH (i:Nat):TE:=fun σ H Q=>∃ v,σ[i]?=some (some v)/\Q v H
abbrev tC (v:V):TE:=fun _ H Q=>Q v H
theorem sB {i:Nat} {x:Str} {pos:Pos} (hN:X.N[i]?=some x) (hv:Vis X.env.scope x) (hd:(x==("__debug__" : Str))=false:=by decide) (hcd:(x==("__classdict__" : Str))=false:=by decide):PE X (.Name x pos) (uH i):=by
 intro pins s σ H Q I h
 obtain ⟨v,e,h⟩:=h
 obtain ⟨m,hn,hl⟩:=I.loc
 obtain ⟨u,r,l⟩:=hl i x v hN e hv
 have fin:EP X pins σ Q u s:=⟨v,H,I,r,h⟩
 rcases l with ⟨hk,hm⟩ | ⟨hk,c,hc,hcell⟩
 ·exact wpAny_Name (wpAny_loadName_local I.ok.kind hk hn hm fin) hd
 ·rcases hk with hk | hk
  ·exact wpAny_Name (wpAny_loadName_cell I.ok.kind hk hc hcell fin) hd
  ·exact wpAny_Name (wpAny_loadName_free I.ok.kind hk hc hcell fin hcd) hd
theorem zFe {i j pos}:PE X (.Constant (.int i) j pos) (tC (.int i)):=fun _ _ _ H _ I h=>wpAny_Constant_int ⟨.int i,H,I.tok _,⟨_,rfl⟩,h⟩
theorem mT {b j pos}:PE X (.Constant (.bool b) j pos) (tC (.bl b)):=fun _ _ _ H _ I h=>Constant_bool ⟨.bl b,H,I,rfl,h⟩
theorem lW {x j pos}:PE X (.Constant (.str x) j pos) (tC (.str x)):=fun _ _ _ H _ I h=>Calls.Constant_str ⟨.str x,H,I.tok _,⟨_,rfl⟩,h⟩
def Gl (X:Cx) (x:Str):Prop:=X.env.kindOf x=some .globalImplicit
theorem zBI {E:Value->Shared->Prop} {pins:List (Addr×Obj)} {s:Shared} {σ:St} {H:Hp} {x:Str} {u:Value} {pos:Pos} {Q:Value->Shared->Prop} (I:Inv X pins σ H s) (hg:Gl X x) (hm:X.mg x=some u) (h:Q u s)
  (hd:(x==("__debug__" : Str))=false:=by decide):wpAny (model X.prog X.w) X.A (eval (.Name x pos) X.env) Q E s:=
 Calls.Name_function_global I.ok.kind hg (Calls.loadGlobal_global (by rw [I.ok.glob];exact I.mod.glob.keeps I.bk) hm h) hd
theorem lV {E:Value->Shared->Prop} {pins:List (Addr×Obj)} {s:Shared} {σ:St} {H:Hp} {x:Str} {u:Value} {pos:Pos} {Q:Value->Shared->Prop} (I:Inv X pins σ H s) (hg:Gl X x) (hm:X.mg x=none) (hv:bootBuiltins x=some u) (h:Q u s)
  (hn:x ≠ "__name__" := by decide) (hd:(x==("__debug__" : Str))=false:=by decide):wpAny (model X.prog X.w) X.A (eval (.Name x pos) X.env) Q E s:=by
 obtain ⟨mb,h1,h2⟩:=I.mod.blt
 exact Calls.Name_function_global I.ok.kind hg (Calls.loadGlobal_builtin (by rw [I.ok.glob];exact I.mod.glob.keeps I.bk) hm (by rw [I.ok.blt];exact h1.keeps I.bk) ((h2 x hn).trans hv) h) hd
theorem zFn {x:Str} {v:V} {u:Value} {pos:Pos} (hg:Gl X x) (hm:X.mg x=some u) (r:cP v u) (hd:(x==("__debug__" : Str))=false:=by decide):PE X (.Name x pos) (tC v):=
 fun _ _ _ H _ I h=>zBI I hg hm ⟨v,H,I,r,h⟩ hd
theorem pH {x:Str} {v:V} {u:Value} {pos:Pos} (hg:Gl X x) (hm:X.mg x=none) (hv:bootBuiltins x=some u) (r:cP v u) (hn:x ≠ "__name__" := by decide) (hd:(x==("__debug__" : Str))=false:=by decide):PE X (.Name x pos) (tC v):=
 fun _ _ _ H _ I h=>lV I hg hm hv ⟨v,H,I,r,h⟩ hn hd
variable {a b:Expr} {ta tb:TE} {pos:Pos}
def PC (X:Cx) (op:CmpOp) (a b:Expr) (t:TE):Prop:=
 ∀ (pins:List (Addr×Obj)) (s:Shared) (σ:St) (H:Hp) (Q:VK),Inv X pins σ H s->t σ H Q->
  wpAny (model X.prog X.w) X.A (eval a X.env) (fun v s₁=>wpAny (model X.prog X.w) X.A (eval b X.env) (fun u s₂=>wpAny (model X.prog X.w) X.A (compareOp op v u) (EP X pins σ Q) X.xe s₂) X.xe s₁) X.xe s
theorem zHS (b:Expr) {op:CmpOp} (h:op≠.In) (h2:op≠.NotIn):behindInMarks op b=false:=by
 have e1:(op==CmpOp.In)=false:=by cases op<;>first | rfl | exact absurd rfl h
 have e2:(op==CmpOp.NotIn)=false:=by cases op<;>first | rfl | exact absurd rfl h2
 cases b<;>simp [behindInMarks,e1,e2]
abbrev tB (t:TE):TT:=fun σ H Q=>t σ H fun x H1=>∃ c,x=.bl c/\Q c H1
theorem zPg {op:CmpOp} {t:TE} (h:PC X op a b t) (h1:behindInMarks op b=false:=by first | exact zHS _ (by decide) (by decide) | rfl):PT X (.Compare a [op] [b] pos) (tB t):=by
 intro pins s σ H Q I hw
 refine wpAny_isTrue_Compare1 (thn (h pins s σ H _ I hw) fun v s1 h1=>thn h1 fun u s2 h2=>thn h2 fun c s3 ⟨x,H1,I1,r1,q1⟩=>?_) h1
 obtain ⟨d,rfl,q⟩:=q1
 cases r1
 exact wpAny_truthy_bool ⟨H1,I1,q⟩
theorem zFd {e:Expr} {t:TE} (h:PE X e t) (he:∀ whole,isTrue e X.env whole=(do let v <-whole;standAt e.pos;holding [v] (truthy v)):=by intro _;rfl):PT X e (tB t):=by
 intro pins s σ H Q I hw
 refine isTrue_plain (thn (h pins s σ H _ I hw) fun v s1 ⟨x,H1,I1,r1,q1⟩=>?_) (he _)
 obtain ⟨d,rfl,q⟩:=q1
 cases r1
 exact wpAny_truthy_bool ⟨H1,I1,q⟩
variable {tA tB':TT} {rest:List Expr}
abbrev zPS (t u:TT):TT:=fun σ H Q=>t σ H fun c H1=>if c=true then u σ H1 Q else Q false H1
abbrev tOr (t u:TT):TT:=fun σ H Q=>t σ H fun c H1=>if c=true then Q true H1 else u σ H1 Q
abbrev zPO (t:TT):TT:=fun σ H Q=>t σ H fun c H1=>Q (!c) H1
theorem zKU (ha:PT X a tA):PW X (.BoolOp .And [a] pos) tA:=by
 intro wh pins s σ H Q I h
 refine isTrue_and (thn (ha pins s σ H Q I h) fun c s1 e=>?_)
 cases c with
 | true=>exact isTrue_and_nil e
 | false=>exact e
theorem zNA (ha:PT X a tA):PW X (.BoolOp .Or [a] pos) tA:=by
 intro wh pins s σ H Q I h
 refine isTrue_or (thn (ha pins s σ H Q I h) fun c s1 e=>?_)
 cases c with
 | false=>exact isTrue_or_nil e
 | true=>exact e
theorem zMR (ha:PT X a tA) (hb:PW X (.BoolOp .And (b::rest) pos) tB'):PW X (.BoolOp .And (a::b::rest) pos) (zPS tA tB'):=by
 intro wh pins s σ H Q I h
 refine isTrue_and (thn (ha pins s σ H _ I h) fun c s1 ⟨H1,I1,q1⟩=>?_)
 cases c with
 | true=>exact hb wh pins s1 σ H1 Q I1 q1
 | false=>exact ⟨H1,I1,q1⟩
theorem zOG (ha:PT X a tA) (hb:PW X (.BoolOp .Or (b::rest) pos) tB'):PW X (.BoolOp .Or (a::b::rest) pos) (tOr tA tB'):=by
 intro wh pins s σ H Q I h
 refine isTrue_or (thn (ha pins s σ H _ I h) fun c s1 ⟨H1,I1,q1⟩=>?_)
 cases c with
 | true=>exact ⟨H1,I1,q1⟩
 | false=>exact hb wh pins s1 σ H1 Q I1 q1
theorem zEG (ha:PT X a tA):PT X (.UnaryOp .Not a pos) (zPO tA):=by
 intro pins s σ H Q I h
 exact isTrue_not (ha pins s σ H (fun c H1=>Q (!c) H1) I h)
abbrev zOg (ta tb:TE):TE:=fun σ H Q=>ta σ H fun x H1=>∃ c,x=.bl c/\if c=true then tb σ H1 Q else Q (.bl false) H1
theorem zNh {op} {t:TE} (h:PE X a t):PE X (.BoolOp op [a] pos) t:=fun pins s σ H Q I hw=>BoolOp_one (h pins s σ H Q I hw)
theorem zMF (ha:PE X a ta) (hb:PE X (.BoolOp .And (b::rest) pos) tb):PE X (.BoolOp .And (a::b::rest) pos) (zOg ta tb):=by
 intro pins s σ H Q I h
 refine BoolOp_and (thn (ha pins s σ H _ I h) fun v s1 ⟨x,H1,I1,r1,q1⟩=>?_)
 obtain ⟨c,rfl,q1⟩:=q1
 cases r1
 refine wpAny_truthy_bool ?_
 cases c with
 | true=>exact hb pins s1 σ H1 Q I1 q1
 | false=>exact ⟨.bl false,H1,I1,rfl,q1⟩
abbrev tIf (t:TT) (ta tb:TE):TE:=fun σ H Q=>t σ H fun c H1=>if c=true then ta σ H1 Q else tb σ H1 Q
theorem zHI {c:Expr} (hc:PT X c tA) (ha:PE X a ta) (hb:PE X b tb):PE X (.IfExp c a b pos) (tIf tA ta tb):=by
 intro pins s σ H Q I h
 refine wpAny_IfExp (thn (hc pins s σ H _ I h) fun d s1 ⟨H1,I1,q1⟩=>?_)
 cases d with
 | true=>exact ha pins s1 σ H1 Q I1 q1
 | false=>exact hb pins s1 σ H1 Q I1 q1
end
end L2
namespace L2
open PySem PySem.Spec PyProof.Rows
def SqL (K:PySem.W.Frag) (H:Hp) (a:Addr) (xs:List V):Prop:=
 Rd H a (.lst xs)∨
  ∃ (o:Obj) (its:Array Value) (n:Nat),K.lookup a=some o/\o.cls=.type "list" /\ o.dict=none/\o.data=.seq its n/\its.size<=sizeLine/\cX xs its.toList
def SqT (K:PySem.W.Frag) (H:Hp) (a:Addr) (xs:List V):Prop:=
 Rd H a (.tup xs)∨
  ∃ (o:Obj) (its:Array Value) (n:Nat),K.lookup a=some o/\o.cls=.type "tuple" /\ o.data=.seq its n/\its.size<=sizeLine/\cX xs its.toList
def zPB:Value->Option V
 | .none=>some .non
 | .bool b=>some (.bl b)
 | .int i _=>some (.int i)
 | .str x _=>some (.str x)
 | .bytes b _=>some (.byt b)
 | .float b _=>some (.flt b)
 | .ref a=>some (.ref a)
 | .type n=>some (.ty n)
 | _=>none
theorem cP.abs {x:V} {u:Value} (r:cP x u):zPB u=some x:=by
 cases x with
 | non=>cases r;rfl
 | bl _=>cases r;rfl
 | int _=>obtain ⟨t,rfl⟩:=r;rfl
 | str _=>obtain ⟨t,rfl⟩:=r;rfl
 | byt _=>obtain ⟨t,rfl⟩:=r;rfl
 | flt _=>obtain ⟨t,rfl⟩:=r;rfl
 | ref _=>cases r;rfl
 | ty _=>cases r;rfl
theorem cP.inj {x y:V} {u:Value} (r:cP x u) (q:cP y u):x=y:=Option.some.inj (r.abs.symm.trans q.abs)
theorem cX.inj:∀ {xs ys:List V} {us:List Value},cX xs us->cX ys us->xs=ys
 | _,_,_,.nil,.nil=>rfl
 | _,_,_,.cons r t,.cons r' t'=>by rw [r.inj r',cX.inj t t']
section
variable {X:Cx} {pins:List (Addr×Obj)} {σ:St} {H:Hp} {s:Shared} {a:Addr} {xs ys:List V}
theorem SqL.of {K:PySem.W.Frag} (h:H a=some (.lst xs)):SqL K H a xs:=.inl (.inl h)
theorem SqT.of {K:PySem.W.Frag} (h:H a=some (.tup xs)):SqT K H a xs:=.inl (.inl h)
theorem Inv.list (I:Inv X pins σ H s) (h:SqL X.K H a xs):∃ its:List Value,cX xs its/\PlainL s.heap a its.toArray/\xs.length<=sizeLine:=by
 rcases h with h | ⟨o,its,n,hk,hc,hd,hs,hz,r⟩
 ·obtain ⟨z,its,n,r,e⟩:=h.ok I.hok
  exact ⟨its,r,⟨_,n,e,rfl,rfl,rfl⟩,z⟩
 ·refine ⟨its.toList,r,⟨o,n,I.kIn a o hk,hc,hd,by simpa using hs⟩,?_⟩
  have e:=r.length
  simp only [Array.length_toList] at e
  omega
theorem Inv.tuple (I:Inv X pins σ H s) (h:SqT X.K H a xs):∃ its:List Value,cX xs its/\IsTup s.heap a its.toArray/\xs.length<=sizeLine:=by
 rcases h with h | ⟨o,its,n,hk,hc,hs,hz,r⟩
 ·obtain ⟨z,its,r,p⟩:=h.ok I.hok
  exact ⟨its,r,p,z⟩
 ·refine ⟨its.toList,r,⟨o,I.kIn a o hk,hc,n,by simpa using hs⟩,?_⟩
  have e:=r.length
  simp only [Array.length_toList] at e
  omega
theorem Inv.list_inj (I:Inv X pins σ H s) (h:SqL X.K H a xs) (h':SqL X.K H a ys):xs=ys:=by
 obtain ⟨its,r,⟨o,n,e,_,_,d⟩,_⟩:=I.list h
 obtain ⟨its',r',⟨o',n',e',_,_,d'⟩,_⟩:=I.list h'
 rw [e] at e';cases e'
 rw [d] at d'
 injection d' with d1 _
 have:its=its':=by simpa using congrArg Array.toList d1
 subst this
 exact r.inj r'
theorem Inv.tuple_inj (I:Inv X pins σ H s) (h:SqT X.K H a xs) (h':SqT X.K H a ys):xs=ys:=by
 obtain ⟨its,r,⟨o,e,_,n,d⟩,_⟩:=I.tuple h
 obtain ⟨its',r',⟨o',e',_,n',d'⟩,_⟩:=I.tuple h'
 rw [e] at e';cases e'
 rw [d] at d'
 injection d' with d1 _
 have:its=its':=by simpa using congrArg Array.toList d1
 subst this
 exact r.inj r'
end
section
variable {X:Cx} {pins:List (Addr×Obj)} {σ:St} {H:Hp} {s:Shared} {E:Value->Shared->Prop}
end
section
variable {X:Cx} {st:Stmt} {rest:List Stmt} {t u:TS} {e:Expr} {te:TE} {pos:Pos}
abbrev zOe:TS:=fun D σ H=>D.nx σ H
abbrev zOL (t u:TS):TS:=fun D σ H=>t { D with nx:=u D } σ H
theorem zBz:PSs X [] zOe:=fun _ _ σ H _ I h=>wpAny_execs_nil ⟨σ,H,I,h⟩
theorem jM (h1:PS X st t) (h2:PSs X rest u):PSs X (st::rest) (zOL t u):=by
 intro pins s σ H D I h
 refine wpAny_execs_cons (thn (h1 pins s σ H { D with nx:=u D } I h) fun f s1 q=>?_)
 cases f with
 | next=>
  obtain ⟨σ',H',I',q⟩:=q
  exact h2 pins s1 σ' H' D I' q
 | ret v=>exact q
 | brk=>exact q
 | cont=>exact q
theorem zBZ (h1:PS X st t):PSs X [st] t:=by
 intro pins s σ H D I h
 refine wpAny_execs_cons (thn (h1 pins s σ H D I h) fun f s1 q=>?_)
 cases f with
 | next=>exact wpAny_execs_nil q
 | ret v=>exact q
 | brk=>exact q
 | cont=>exact q
theorem Inv.quiet {pins:List (Addr×Obj)} {σ:St} {H:Hp} {s:Shared} (I:Inv X pins σ H s):interactive X.env=false:=by simp [interactive,I.ok.kind]
abbrev zOb (te:TE):TS:=fun D σ H=>te σ H fun _ H1=>D.nx σ H1
theorem yA (he:PE X e te) (hs:swapsWith e none pos.line X.env=pure false:=by rfl):PS X (.Expr e pos) (zOb te):=by
 intro pins s σ H D I h
 exact wpAny_Expr_any (thn (he pins s σ H _ I h) fun v s1 ⟨x,H1,I1,r1,q1⟩=>⟨σ,H1,I1,q1⟩) I.quiet hs
abbrev zOW (te:TE):TS:=fun D σ H=>te σ H D.rt
theorem zCx (he:PE X e te):PS X (.Return (some e) pos) (zOW te):=by
 intro pins s σ H D I h
 exact wpAny_Return_some (thn (he pins s σ H _ I h) fun v s1 ⟨x,H1,I1,r1,q1⟩=>⟨x,σ,H1,I1,r1,q1⟩)
abbrev zPV (c:TT) (t u:TS):TS:=fun D σ H=>c σ H fun b H1=>if b=true then t D σ H1 else u D σ H1
theorem zJJ {c:Expr} {a b:List Stmt} {tc:TT} (hc:PT X c tc) (ha:PSs X a t) (hb:PSs X b u):PS X (.If c a b pos) (zPV tc t u):=by
 intro pins s σ H D I h
 refine wpAny_If (thn (hc pins s σ H _ I h) fun d s1 ⟨H1,I1,q1⟩=>?_)
 cases d with
 | true=>exact ha pins s1 σ H1 D I1 q1
 | false=>exact hb pins s1 σ H1 D I1 q1
end
abbrev TG:=V->St->Hp->(St->Hp->Prop)->Prop
abbrev TGs:=List V->St->Hp->(St->Hp->Prop)->Prop
def PG (X:Cx) (target:Expr) (t:TG):Prop:=
 ∀ (pins:List (Addr×Obj)) (s:Shared) (σ:St) (H:Hp) (v:V) (u:Value) (Q:St->Hp->Prop),Inv X pins σ H s->cP v u->t v σ H Q->
  wpAny (model X.prog X.w) X.A (assign target X.env u) (fun _ s'=>∃ σ' H',Inv X pins σ' H' s'/\Q σ' H') X.xe s
def PGs (X:Cx) (ts:List Expr) (t:TGs):Prop:=
 ∀ (pins:List (Addr×Obj)) (s:Shared) (σ:St) (H:Hp) (vs:List V) (us:List Value) (Q:St->Hp->Prop),Inv X pins σ H s->cX vs us->t vs σ H Q->
  wpAny (model X.prog X.w) X.A (assignInOrder ((assignEach ts X.env).map (·.2)) us) (fun _ s'=>∃ σ' H',Inv X pins σ' H' s'/\Q σ' H') X.xe s
abbrev zOv:=V->V->V->Hp->(Hp->Prop)->Prop
def zPu (X:Cx) (t:zOv):Prop:=
 ∀ (pins:List (Addr×Obj)) (s:Shared) (σ:St) (H:Hp) (o i v:V) (ov iv u:Value) (Q:Hp->Prop),Inv X pins σ H s->cP o ov->cP i iv->cP v u->t o i v H Q->
  wpAny (model X.prog X.w) X.A (setItem ov iv u) (fun _ s'=>∃ H',Inv X pins σ H' s'/\Q H') X.xe s
abbrev TIp:=V->V->Hp->VK->Prop
def PIp (X:Cx) (op:Operator) (t:TIp):Prop:=
 ∀ (pins:List (Addr×Obj)) (s:Shared) (σ:St) (H:Hp) (x y:V) (v u:Value) (Q:VK),Inv X pins σ H s->cP x v->cP y u->t x y H Q->
  wpAny (model X.prog X.w) X.A (inplaceOp op v u) (EP X pins σ Q) X.xe s
section
variable {X:Cx} {pos:Pos}
abbrev gName (i:Nat):TG:=fun v σ H Q=>Q (σ.set i (some v)) H
theorem zBR {i:Nat} {x:Str} (hN:X.N.Nodup) (hi:X.N[i]?=some x) (hx:Loc X.env.scope x) (hf:X.fn x=true∨X.env.scope.names.lookup x=some .local:=by first | exact .inl rfl | exact .inr rfl | assumption):PG X (.Name x pos) (gName i):=by
 intro pins s σ H v u Q I r h
 exact wpAny_assign_Name (rG I hN hi hx r (fun s' I'=>⟨_,H,I',h⟩) hf)
def zIb:TGs:=fun vs σ H Q=>vs=[]/\Q σ H
def qR (t:TG) (u:TGs):TGs:=fun vs σ H Q=>∃ v r,vs=v::r/\t v σ H fun σ' H'=>u r σ' H' Q
theorem zFj:PGs X [] zIb:=by
 intro pins s σ H vs us Q I r h
 obtain ⟨e,h⟩:=h
 subst e
 cases r
 exact assignInOrder_nil ⟨σ,H,I,h⟩
theorem wM {e:Expr} {es:List Expr} {t:TG} {u:TGs} (h1:PG X e t) (h2:PGs X es u)
  (hs:(assignEach (e::es) X.env).map (·.2)=assign e X.env::(assignEach es X.env).map (·.2):=by rfl):PGs X (e::es) (qR t u):=by
 intro pins s σ H vs us Q I r h
 obtain ⟨v,vr,e1,h⟩:=h
 subst e1
 cases r with
 | cons r rr=>
  rw [hs]
  refine assignInOrder_cons (thn (h1 pins s σ H _ _ _ I r h) fun _ s1 ⟨σ1,H1,I1,q1⟩=>?_)
  exact h2 pins s1 σ1 H1 _ _ Q I1 rr q1
def zIn (K:PySem.W.Frag) (n:Nat) (t:TGs):TG:=fun v σ H Q=>∃ a xs,v=.ref a/\SqT K H a xs/\xs.length=n/\t xs σ H Q
theorem zJk {es:List Expr} {k:Nat} {t:TGs} {n:Nat} (hc:X.calm=true) (h:PGs X es t)
  (hn:(assignEach es X.env).length=n:=by rfl) (hst:(assignEach es X.env).findIdx? (·.1)=none:=by rfl):PG X (.Tuple es k pos) (zIn X.K n t):=by
 intro pins s σ H v u Q I r hw
 obtain ⟨a,xs,e1,hq,hl,hw⟩:=hw
 subst e1
 cases r
 obtain ⟨its,rv,ht,hz⟩:=I.tuple hq
 refine assign_Tuple_tuple (I.ok.hd hc) ht (by simp [hn,<-hl,rv.length]) hst fun h' hx=>?_
 have I1:Inv X pins σ H { s with heap:=h' }:=I.kept (t':=s.toks) fun b o e=>hx b o (Nat.ne_of_lt (Heap.lt_size e)) e
 exact h pins _ σ H xs _ Q I1 (by simpa using rv) hw
def zPx (to ti:TE) (t:zOv):TG:=fun v σ H Q=>to σ H fun o H1=>ti σ H1 fun i H2=>t o i v H2 fun H3=>Q σ H3
theorem zMm {o i:Expr} {to ti:TE} {t:zOv} (ho:PE X o to) (hi:PE X i ti) (hs:zPu X t)
  (ha:∀ v,assign (.Subscript o i pos) X.env v=(do
   let ov <-holding [v] (eval o X.env)
   let iv <-holding [v,ov] (eval i X.env)
   standAt pos
   holding [v,ov,iv] (setItem ov iv v)
   release [v,ov,iv] []):=by intro _;rfl):PG X (.Subscript o i pos) (zPx to ti t):=by
 intro pins s σ H v u Q I r h
 rw [ha]
 refine wpAny_bind (wpAny_holding (thn (ho pins s σ H _ I h) fun ov s1 ⟨x,H1,I1,r1,q1⟩=>?_))
 refine wpAny_bind (wpAny_holding (thn (hi pins s1 σ H1 _ I1 q1) fun iv s2 ⟨y,H2,I2,r2,q2⟩=>?_))
 refine wpAny_bind (wpAny_standAt (wpAny_bind (wpAny_holding (thn (hs pins s2 σ H2 x y v ov iv u _ I2 r1 r2 r q2) fun _ s3 ⟨H3,I3,q3⟩=>?_))))
 exact wpAny_release ⟨σ,H3,I3,q3⟩
abbrev zOt (te:TE) (g:TG):TS:=fun D σ H=>te σ H fun x H1=>g x σ H1 D.nx
theorem zLY {tg e:Expr} {te:TE} {g:TG} (he:PE X e te) (hg:PG X tg g) (hs:swapsWithSole [tg] e pos.line X.env=pure false:=by rfl) (hw:swappedStores [tg] e X.env=pure none:=by rfl)
  (h1:(assignEach [tg] X.env).map (·.2)=[assign tg X.env]:=by rfl):PS X (.Assign [tg] e pos) (zOt te g):=by
 intro pins s σ H D I h
 refine wpAny_Assign_stores (thn (he pins s σ H _ I h) fun v s1 ⟨x,H1,I1,r1,q1⟩=>?_) hs hw
 rw [h1]
 exact thn (hg pins s1 σ H1 x v _ I1 r1 q1) fun _ s2 q=>q
theorem zGb {i:Nat} {x:Str} {e:Expr} {te:TE} {pos':Pos} (hN:X.N.Nodup) (hi:X.N[i]?=some x) (hx:Loc X.env.scope x) (he:PE X e te) (hs:swapsWith e (some (.Name x pos')) pos.line X.env=pure false:=by rfl) (hf:X.fn x=true∨X.env.scope.names.lookup x=some .local:=by first | exact .inl rfl | exact .inr rfl | assumption):
  PS X (.Assign [.Name x pos'] e pos) (zOt te (gName i)):=by
 intro pins s σ H D I h
 refine wpAny_Assign_Name (thn (he pins s σ H _ I h) fun v s1 ⟨y,H1,I1,r1,q1⟩=>?_) hs
 exact rG I1 hN hi hx r1 (fun s2 I2=>⟨_,H1,I2,q1⟩) hf
abbrev zPC (i:Nat) (te:TE) (ti:TIp):TS:=fun D σ H=>∃ x,σ[i]?=some (some x)/\te σ H fun y H1=>ti x y H1 fun z H2=>D.nx (σ.set i (some z)) H2
theorem zMd {i:Nat} {x:Str} {e:Expr} {te:TE} {op:Operator} {ti:TIp} {pos':Pos} (hN:X.N.Nodup) (hi:X.N[i]?=some x) (hx:Loc X.env.scope x) (he:PE X e te) (ho:PIp X op ti) (hf:X.fn x=true∨X.env.scope.names.lookup x=some .local:=by first | exact .inl rfl | exact .inr rfl | assumption):
  PS X (.AugAssign (.Name x pos') op e pos) (zPC i te ti):=by
 intro pins s σ H D I h
 obtain ⟨v,e1,h⟩:=h
 obtain ⟨m,hn,hl⟩:=I.loc
 have vis:Vis X.env.scope x:=by rcases hx with k | k;exact .inl k;exact .inr (.inl k)
 obtain ⟨u,r,l⟩:=hl i x v hi e1 vis
 refine wpAny_AugAssign_Name ?_
 have go:wpAny (model X.prog X.w) X.A (eval e X.env) (fun w s₂=>wpAny (model X.prog X.w) X.A (inplaceOp op u w) (fun r s₃=>wpAny (model X.prog X.w) X.A (storeName X.env x r) (fun _=>SP X pins D .next) X.xe s₃) X.xe s₂) X.xe s:=by
  refine thn (he pins s σ H _ I h) fun w s1 ⟨y,H1,I1,r1,q1⟩=>?_
  refine thn (ho pins s1 σ H1 v y u w _ I1 r r1 q1) fun z s2 ⟨zv,H2,I2,r2,q2⟩=>?_
  exact rG I2 hN hi hx r2 (fun s3 I3=>⟨_,H2,I3,q2⟩) hf
 rcases l with ⟨hk,hm⟩ | ⟨hk,c,hc,hcell⟩
 ·exact wpAny_loadName_local I.ok.kind hk hn hm go
 ·rcases hk with hk | hk
  ·exact wpAny_loadName_cell I.ok.kind hk hc hcell go
  ·rcases hx with k | k
   ·have:X.env.scope.names.lookup x=some .free:=hk
    rw [k] at this;cases this
   ·have:X.env.scope.names.lookup x=some .free:=hk
    rw [k] at this;cases this
def ipI (f:Int->Int->Int):TIp:=fun x y H Q=>∃ i j,x=.int i/\y=.int j/\Q (.int (f i j)) H
theorem zJm:PIp X .Add (ipI fun i j=>i+j):=by
 intro pins s σ H x y v u Q I r1 r2 h
 obtain ⟨i,j,e1,e2,q⟩:=h
 subst e1;subst e2
 obtain ⟨t,rfl⟩:=r1
 obtain ⟨t',rfl⟩:=r2
 exact iadd_int ⟨.int _,H,I.tok _,⟨_,rfl⟩,q⟩
theorem zJz:PIp X .Sub (ipI fun i j=>i - j):=by
 intro pins s σ H x y v u Q I r1 r2 h
 obtain ⟨i,j,e1,e2,q⟩:=h
 subst e1;subst e2
 obtain ⟨t,rfl⟩:=r1
 obtain ⟨t',rfl⟩:=r2
 exact isub_int ⟨.int _,H,I.tok _,⟨_,rfl⟩,q⟩
end
section
variable {X:Cx} {pos:Pos}
def zNw (c:TT) (tb:TS):TS:=fun D σ H=>∃ W:Nat->St->Hp->Prop,(∃ m,W m σ H)/\∀ m σ H,W m σ H->
 c σ H fun b H1=>if b=true then ∃ N:St->Hp->Prop,(∀ σ' H',N σ' H'->∃ m',m' < m/\W m' σ' H')/\tb { D with nx:=N,ct:=N,bk:=D.nx } σ H1 else D.nx σ H1
theorem zHM {c:Expr} {body:List Stmt} {tc:TT} {tb:TS} (hp:PassesOwn (model X.prog X.w) X.A X.env X.xe) (hc:PT X c tc) (hb:PSs X body tb):PS X (.While c body [] pos) (zNw tc tb):=by
 intro pins s σ H D I h
 obtain ⟨W,⟨m0,w0⟩,turn⟩:=h
 refine wpAny_While (codeAny_whileLoop (fun n s'=>∃ σ' H',Inv X pins σ' H' s'/\W n σ' H') ?_ m0 ⟨σ,H,I,w0⟩)
 rintro n s1 ⟨σ1,H1,I1,w1⟩
 refine wpAny_passesOwn hp (thn (hc pins s1 σ1 H1 _ I1 (turn n σ1 H1 w1)) fun b s2 ⟨H2,I2,q2⟩=>?_)
 cases b with
 | true=>
  obtain ⟨N,hN,q2⟩:=q2
  rw [if_pos rfl]
  refine wpAny_passesOwn hp (thn (hb pins s2 σ1 H2 _ I2 q2) fun f s3 q3=>?_)
  cases f with
  | next=>
   obtain ⟨σ3,H3,I3,n3⟩:=q3
   obtain ⟨m',hm,w3⟩:=hN σ3 H3 n3
   exact ⟨m',hm,σ3,H3,I3,w3⟩
  | cont=>
   obtain ⟨σ3,H3,I3,n3⟩:=q3
   obtain ⟨m',hm,w3⟩:=hN σ3 H3 n3
   exact ⟨m',hm,σ3,H3,I3,w3⟩
  | brk=>exact q3
  | ret v=>exact q3
 | false=>
  rw [if_neg Bool.false_ne_true]
  exact wpAny_execs_nil ⟨σ1,H2,I2,q2⟩
end
structure It where
 go:Nat->Hp->Prop
 yld:Nat->Hp->V->Hp->Prop
 stop:Nat->Hp->Prop
def qO (X:Cx) (pins:List (Addr×Obj)) (H:Hp) (b:Addr):Prop:=
 H b=none/\b≠X.env.locals/\b∉X.fs/\(b∈X.ex∨X.s₀.heap.objs.size<=b)/\(∀ x c,X.env.cells.lookup x=some c->c≠b)/\∀ p∈X.pn++pins,p.1≠b
theorem Inv.fpOk {X:Cx} {pins:List (Addr×Obj)} {σ:St} {H H':Hp} {s:Shared} {b:Addr} (I:Inv X pins σ H s) (hb:s.heap.objs.size<=b) (hn:H' b=none):qO X pins H' b:=by
 refine ⟨hn,Nat.ne_of_gt (Nat.lt_of_lt_of_le I.lt hb),I.nofs hb,.inr (Nat.le_trans I.sz hb),fun x c e z=>?_,fun p hp z=>?_⟩
 ·obtain ⟨v,q⟩:=I.cell x c e
  exact absurd (Nat.lt_of_lt_of_le q.lt (by rw [z];exact hb)) (Nat.lt_irrefl _)
 ·exact absurd (Nat.lt_of_lt_of_le (Heap.lt_size (I.pin p hp).1) (by rw [z];exact hb)) (Nat.lt_irrefl _)
structure Turn (P:Program) (w:World) (K:PySem.W.Frag) (tg:Expr) (J:It) (fp:List Addr) (it:Addr) (tn:Nat->Heap->Prop):Prop where
 mem:it∈fp
 obj:∀ i h,tn i h->∀ b∈fp,∃ o,h.get? b=some o/\∀ v,o.data≠.cell v
 keep:∀ i h h',tn i h->(∀ b∈fp,∀ o,h.get? b=some o->h'.get? b=some o)->tn i h'
 item:∀ (X:Cx),X.prog=P->X.w=w->X.K=K->X.calm=true->∀ (i:Nat) (pins:List (Addr×Obj)) (s:Shared) (σ:St) (H:Hp) (E:Value->Shared->Prop),Inv X pins σ H s->(∀ b∈fp,qO X pins H b)->tn i s.heap->J.go i H->
  wpAny (model P w) X.A (pyNext (.ref it)) (fun r s1=>∃ u,r=some u/\
   wpAny (model P w) X.A (letOwnedTupleGo tg (.ref it) u) (fun _ s2=>∃ x H',Inv X pins σ H' s2/\cP x u/\J.yld i H x H'/\tn (i+1) s2.heap/\∀ b∈fp,H' b=none) E s1) E s
 done:∀ (X:Cx),X.prog=P->X.w=w->X.K=K->X.calm=true->∀ (i:Nat) (pins:List (Addr×Obj)) (s:Shared) (σ:St) (H:Hp) (E:Value->Shared->Prop),Inv X pins σ H s->(∀ b∈fp,qO X pins H b)->tn i s.heap->J.stop i H->
  wpAny (model P w) X.A (pyNext (.ref it)) (fun r s1=>r=none/\Inv X pins σ H s1) E s
 self:∀ (A:Around) (i:Nat) (s:Shared) (Q:Value->Shared->Prop) (E:Value->Shared->Prop),tn i s.heap->Q (.ref it) s->wpAny (model P w) A (pyIter (.ref it)) Q E s
abbrev TI:=St->Hp->(It->Hp->Prop)->Prop
def PIE (X:Cx) (pins:List (Addr×Obj)) (σ:St) (tg:Expr) (R:It->Hp->Prop) (itv:Value) (s2:Shared):Prop:=
 ∃ (it:Addr) (fp:List Addr) (tn:Nat->Heap->Prop) (J:It) (H':Hp),itv=.ref it/\Inv X pins σ H' s2/\Turn X.prog X.w X.K tg J fp it tn/\tn 0 s2.heap/\(∀ b∈fp,qO X pins H' b)/\R J H'
def PI (X:Cx) (tg iter:Expr) (wi:TI):Prop:=
 ∀ (pins:List (Addr×Obj)) (s:Shared) (σ:St) (H:Hp) (R:It->Hp->Prop),Inv X pins σ H s->wi σ H R->
  wpAny (model X.prog X.w) X.A (eval iter X.env) (fun v s1=>wpAny (model X.prog X.w) X.A (pyIter v) (PIE X pins σ tg R) X.xe s1) X.xe s
theorem zGX {M:Model} {A:Around} {E:Value->Shared->Prop} {s:Shared} {tg:Expr} {it:Addr} {u:Value} {o:Obj} {n:String} {vs:Array Value} {Q:Unit->Shared->Prop} (ho:s.heap.get? it=some o) (hc:o.cls=.type n) (hd:o.data=.fields vs)
    (hn:["enumerate", "zip", "dict_itemiterator", "dict_reverseitemiterator", "odict_iterator", "itertools.zip_longest", "itertools.pairwise"].contains n=false) (hQ:Q () s):wpAny M A (letOwnedTupleGo tg (.ref it) u) Q E s:=by
  unfold letOwnedTupleGo
  cases tg<;>first
    | exact wpAny_pure hQ
    | (cases u<;>first
        | exact wpAny_pure hQ
        | (refine wpAny_bind (wpAny_load ho ?_)
           rw [hc,hd]
           show wpAny M A (if (["enumerate", "zip", "dict_itemiterator", "dict_reverseitemiterator", "odict_iterator", "itertools.zip_longest", "itertools.pairwise"].contains n && vs[0]?==some (rawInt _))=true then _ else _) Q E s
           rw [if_neg (by intro h;rw [hn,Bool.false_and] at h;cases h)]
           exact wpAny_pure hQ))
def Itl (K:PySem.W.Frag) (a:Addr):It:=
 ⟨fun i H=>∃ xs x,SqL K H a xs/\xs[i]?=some x,fun i H x H'=>H'=H/\∀ xs,SqL K H a xs->xs[i]?=some x,fun i H=>∃ xs,SqL K H a xs/\xs.length<=i⟩
def Itt (K:PySem.W.Frag) (a:Addr):It:=
 ⟨fun i H=>∃ xs x,SqT K H a xs/\xs[i]?=some x,fun i H x H'=>H'=H/\∀ xs,SqT K H a xs->xs[i]?=some x,fun i H=>∃ xs,SqT K H a xs/\xs.length<=i⟩
def Itr (lo:Int) (n:Nat):It:=⟨fun i _=>i < n,fun i H x H'=>H'=H/\x=.int (lo+i),fun i _=>n<=i⟩
theorem zAf {P:Program} {w:World} {K:PySem.W.Frag} {tg:Expr} (a it:Addr):Turn P w K tg (Itl K a) [it] it (fun i h=>h.IsListIter it a i) where
 mem:=by simp
 obj:=fun i h st b hb=>by
  have e:b=it:=by simpa using hb
  subst e
  obtain ⟨o,e,c,d⟩:=st
  exact ⟨o,e,fun v z=>by rw [d] at z;cases z⟩
 keep:=fun i h h' st k=>st.at fun o e=>k it (by simp) o e
 item:=by
  intro X hP hw hK hc i pins s σ H E I hf st hg
  subst hP hw hK
  obtain ⟨xs,x,hq,hx⟩:=hg
  obtain ⟨its,rv,p,hz⟩:=I.list hq
  obtain ⟨u,hu,ru⟩:=rv.get hx
  obtain ⟨f0,f1,f2,f3,f4,f5⟩:=hf it (by simp)
  refine wpAny_pyNext_list_item st p.isList (x:=u) (by simpa using hu) fun h' st' sb=>?_
  have I1:Inv X pins σ H { s with heap:=h' }:=I.turned (t':=s.toks) (fun b o hb e=>(sb.2 b hb).trans e) f0 f1 f3 f4 f5
  obtain ⟨o,e,c,d⟩:=id st'
  exact ⟨u,rfl,zGX (s:={ s with heap:=h' }) e c d (by decide) ⟨x,H,I1,ru,⟨rfl,fun ys hy=>by rw [I.list_inj hy hq];exact hx⟩,st',fun b hb=>(hf b hb).1⟩⟩
 done:=by
  intro X hP hw hK hc i pins s σ H E I hf st hg
  subst hP hw hK
  obtain ⟨xs,hq,hx⟩:=hg
  obtain ⟨its,rv,p,hz⟩:=I.list hq
  obtain ⟨f0,f1,f2,f3,f4,f5⟩:=hf it (by simp)
  have hl:=rv.length
  exact wpAny_pyNext_list_end (I.ok.hd hc) st p.isList (by simp;omega) fun h' eb=>⟨rfl,I.turned (t':=s.toks) (fun b o hb e=>eb b o hb e) f0 f1 f3 f4 f5⟩
 self:=fun _ _ _ _ _ st h=>wpAny_pyIter_listiter st h
theorem zDG {P:Program} {w:World} {K:PySem.W.Frag} {tg:Expr} (a it:Addr):Turn P w K tg (Itt K a) [it] it (fun i h=>h.IsTupleIter it a i) where
 mem:=by simp
 obj:=fun i h st b hb=>by
  have e:b=it:=by simpa using hb
  subst e
  obtain ⟨o,e,c,d⟩:=st
  exact ⟨o,e,fun v z=>by rw [d] at z;cases z⟩
 keep:=fun i h h' st k=>st.at fun o e=>k it (by simp) o e
 item:=by
  intro X hP hw hK hc i pins s σ H E I hf st hg
  subst hP hw hK
  obtain ⟨xs,x,hq,hx⟩:=hg
  obtain ⟨its,rv,p,hz⟩:=I.tuple hq
  obtain ⟨u,hu,ru⟩:=rv.get hx
  obtain ⟨f0,f1,f2,f3,f4,f5⟩:=hf it (by simp)
  refine wpAny_pyNext_tuple_item st (show s.heap.IsTuple a its.toArray from p) (x:=u) (by simpa using hu) fun h' st' sb=>?_
  have I1:Inv X pins σ H { s with heap:=h' }:=I.turned (t':=s.toks) (fun b o hb e=>(sb.2 b hb).trans e) f0 f1 f3 f4 f5
  obtain ⟨o,e,c,d⟩:=id st'
  exact ⟨u,rfl,zGX (s:={ s with heap:=h' }) e c d (by decide) ⟨x,H,I1,ru,⟨rfl,fun ys hy=>by rw [I.tuple_inj hy hq];exact hx⟩,st',fun b hb=>(hf b hb).1⟩⟩
 done:=by
  intro X hP hw hK hc i pins s σ H E I hf st hg
  subst hP hw hK
  obtain ⟨xs,hq,hx⟩:=hg
  obtain ⟨its,rv,p,hz⟩:=I.tuple hq
  obtain ⟨f0,f1,f2,f3,f4,f5⟩:=hf it (by simp)
  have hl:=rv.length
  exact wpAny_pyNext_tuple_end (I.ok.hd hc) st (show s.heap.IsTuple a its.toArray from p) (by simp;omega) fun h' eb=>⟨rfl,I.turned (t':=s.toks) (fun b o hb e=>eb b o hb e) f0 f1 f3 f4 f5⟩
 self:=fun _ _ _ _ _ st h=>wpAny_pyIter_tupleiter st h
theorem zEn {P:Program} {w:World} {K:PySem.W.Frag} {tg:Expr} (it:Addr) (lo:Int) (n:Nat):Turn P w K tg (Itr lo n) [it] it (fun i h=>IsRangeIter h it (lo+(i:Nat) * 1) ((n:Int) - (i:Nat)) 1) where
 mem:=by simp
 obj:=fun i h st b hb=>by
  have e:b=it:=by simpa using hb
  subst e
  exact ⟨_,st,fun v z=>by
   have z':Data.fields _=Data.cell v:=z
   cases z'⟩
 keep:=fun i h h' st k=>k it (by simp) _ st
 item:=by
  intro X hP hw hK hc i pins s σ H E I hf st hg
  subst hP hw hK
  obtain ⟨f0,f1,f2,f3,f4,f5⟩:=hf it (by simp)
  have W:=Walks.range (prog:=X.prog) (w:=X.w) (I.ok.hd hc) it lo 1 n
  refine W.item i s _ _ hg st fun v h' tk hv st' kk=>?_
  obtain ⟨t,rfl⟩:=hv
  have I1:Inv X pins σ H { s with heap:=h',toks:=tk }:=I.turned (fun b o hb e=>kk b o (by simpa using hb) e) f0 f1 f3 f4 f5
  refine ⟨_,rfl,zGX (s:={ s with heap:=h',toks:=tk }) (n := "range_iterator") st' rfl rfl (by decide) ⟨.int (lo+i),H,I1,⟨t,?_⟩,⟨rfl,rfl⟩,st',fun b hb=>(hf b hb).1⟩⟩
  rw [Int.mul_one]
 done:=by
  intro X hP hw hK hc i pins s σ H E I hf st hg
  subst hP hw hK
  obtain ⟨f0,f1,f2,f3,f4,f5⟩:=hf it (by simp)
  exact wpAny_pyNext_range_end (I.ok.hd hc) st (by have:n<=i:=hg;omega) fun h' eb=>⟨rfl,I.turned (t':=s.toks) (fun b o hb e=>eb b o hb e) f0 f1 f3 f4 f5⟩
 self:=fun _ _ _ _ _ st h=>wpAny_pyIter_rangeiter st h
end L2
namespace L2
open PySem PySem.Spec PyProof.Rows
section
variable {X:Cx} {tg:Expr}
abbrev zOh (K:PySem.W.Frag) (tl:TE):TI:=fun σ H R=>tl σ H fun x H1=>∃ a,x=.ref a/\(∃ xs,SqL K H1 a xs)/\R (Itl K a) H1
theorem zKE {l:Expr} {tl:TE} (hl:PE X l tl):PI X tg l (zOh X.K tl):=by
 intro pins s σ H R I h
 refine thn (hl pins s σ H _ I h) fun v s1 ⟨x,H1,I1,r1,q1⟩=>?_
 obtain ⟨a,e,⟨xs,hq⟩,q⟩:=q1
 subst e
 cases r1
 obtain ⟨its,rv,p,hz⟩:=I1.list hq
 refine wpAny_pyIter_list p.isList ?_
 refine ⟨s1.heap.objs.size,[s1.heap.objs.size],_,_,H1,rfl,I1.kept (t':=s1.toks) fun b o e=>Heap.get?_push_of_some _ e,zAf a _,⟨_,Heap.get?_push_size _ rfl,rfl,rfl⟩,fun b hb=>?_,q⟩
 have e:b=s1.heap.objs.size:=by simpa using hb
 subst e
 exact I1.fpOk (Nat.le_refl _) (I1.hok.fresh (Nat.le_refl _))
theorem zCr {pins:List (Addr×Obj)} {σ:St} {H:Hp} {s:Shared} {R:It->Hp->Prop} {E:Value->Shared->Prop} {lo hi:Int} {t u v:Tok} {tk:Nat} (I:Inv X pins σ H s) (h1:-(2^62)<=lo) (h2:lo < 2^62) (h3:-(2^62)<=hi) (h4:hi < 2^62)
  (q:R (Itr lo (hi - lo).toNat) H):wpAny (model X.prog X.w) X.A (pyIter (.ref s.heap.objs.size)) (PIE X pins σ tg R) E { s with heap:=s.heap.push { cls:=.type "range", data:=.fields #[.int lo t,.int hi u,.int 1 v] },toks:=tk }:=by
 refine wpAny_pyIter_range (IsRange.new ..) (small_one h1 h2 h3 h4) ?_
 have I1:Inv X pins σ H { s with heap:=s.heap.push { cls:=.type "range", data:=.fields #[.int lo t,.int hi u,.int 1 v] },toks:=tk }:=I.kept fun b o e=>Heap.get?_push_of_some _ e
 refine ⟨(s.heap.push { cls:=.type "range", data:=.fields #[.int lo t,.int hi u,.int 1 v] }).objs.size,[(s.heap.push { cls:=.type "range", data:=.fields #[.int lo t,.int hi u,.int 1 v] }).objs.size],_,_,H,rfl,
  I1.kept (t':=tk) fun b o e=>Heap.get?_push_of_some _ e,zEn _ lo (hi - lo).toNat,?_,fun b hb=>?_,q⟩
 ·have e1:lo+((0:Nat):Int) * 1=lo:=by simp
  have e2:(((hi - lo).toNat:Nat):Int) - ((0:Nat):Int)=Builtin.Range.rangeSize lo hi 1:=by rw [rangeSize_one];split<;>omega
  show IsRangeIter _ _ (lo+((0:Nat):Int) * 1) ((((hi - lo).toNat:Nat):Int) - ((0:Nat):Int)) 1
  rw [e1,e2]
  exact Heap.get?_push_size _ rfl
 ·have e:b=(s.heap.push { cls:=.type "range", data:=.fields #[.int lo t,.int hi u,.int 1 v] }).objs.size:=by simpa using hb
  subst e
  exact I1.fpOk (Nat.le_refl _) (I1.hok.fresh (Nat.le_refl _))
abbrev zBy (ta:TA):TI:=fun σ H R=>ta σ H fun vs H1=>∃ j:Int,vs=[.int j]/\-(2^62)<=j/\j < 2^62/\R (Itr 0 j.toNat) H1
abbrev zBj (ta:TA):TI:=fun σ H R=>ta σ H fun vs H1=>∃ i j:Int,vs=[.int i,.int j]/\(-(2^62)<=i/\i < 2^62/\-(2^62)<=j/\j < 2^62)/\R (Itr i (j - i).toNat) H1
theorem zGk {a:Expr} {ta:TA} {p pos:Pos} (hg:Gl X "range") (hm:X.mg "range" = none) (ha:PA X [a] ta) (hs:starEach [a] X.env=[(false,eval a X.env)]:=by rfl):PI X tg (.Call (.Name "range" p) [a] [] pos) (zBy ta):=by
 intro pins s σ H R I h
 refine Call_ (lV I hg hm boot_range (PyProof.Rows.callWith_type1 (thn (ha pos pins s σ H _ I h) fun us s1 ⟨vs,H1,I1,r1,q1⟩=>?_) hs rfl))
 obtain ⟨j,e,q1,q2,q⟩:=q1
 subst e
 cases r1 with
 | cons r rr=>
  cases rr
  obtain ⟨t,rfl⟩:=r
  exact call_range_1 (zCr I1 (by omega) (by omega) q1 q2 (by simpa using q))
theorem zFy {a b:Expr} {ta:TA} {p pos:Pos} (hg:Gl X "range") (hm:X.mg "range" = none) (ha:PA X [a,b] ta) (hs:starEach [a,b] X.env=[(false,eval a X.env),(false,eval b X.env)]:=by rfl) (hs2:starEach [b] X.env=[(false,eval b X.env)]:=by rfl):
  PI X tg (.Call (.Name "range" p) [a,b] [] pos) (zBj ta):=by
 intro pins s σ H R I h
 refine Call_ (lV I hg hm boot_range (PyProof.Rows.callWith_type1 (thn (ha pos pins s σ H _ I h) fun us s1 ⟨vs,H1,I1,r1,q1⟩=>?_) (by rw [hs,hs2]) (by rw [hs2];rfl)))
 obtain ⟨i,j,e,⟨q1,q2,q3,q4⟩,q⟩:=q1
 subst e
 cases r1 with
 | cons r rr=>
  cases rr with
  | cons r' rr=>
   cases rr
   obtain ⟨t,rfl⟩:=r
   obtain ⟨t',rfl⟩:=r'
   exact call_range_2 (zCr I1 q1 q2 q3 q4 q)
abbrev zPk (wi:TI) (g:TG) (tb:TS):TS:=fun D σ H=>wi σ H fun J H1=>∃ W:Nat->Nat->St->Hp->Prop,(∃ m,W 0 m σ H1)/\∀ i m σ H,W i m σ H->
 (J.stop i H/\D.nx σ H)∨(J.go i H/\∃ N:St->Hp->Prop,(∀ σ' H',N σ' H'->∃ m',m' < m/\W (i+1) m' σ' H')/\∀ x H',J.yld i H x H'->g x σ H' fun σ2 H2=>tb { D with nx:=N,ct:=N,bk:=D.nx } σ2 H2)
def tJ (fp:List Addr) (h:Heap):List (Addr×Obj):=fp.filterMap fun b=>(h.get? b).map fun o=>(b,o)
theorem eM {fp:List Addr} {h:Heap} {b:Addr} {o:Obj} (hb:b∈fp) (e:h.get? b=some o):(b,o)∈tJ fp h:=List.mem_filterMap.mpr ⟨b,hb,by rw [e];rfl⟩
theorem zEZ {fp:List Addr} {h:Heap} {p:Addr×Obj} (hp:p∈tJ fp h):p.1∈fp/\h.get? p.1=some p.2:=by
 obtain ⟨b,hb,e⟩:=List.mem_filterMap.mp hp
 cases q:h.get? b with
 | none=>rw [q] at e;cases e
 | some o=>
  rw [q] at e
  have e':(b,o)=p:=Option.some.inj e
  subst e'
  exact ⟨hb,q⟩
theorem Inv.pinned {pins:List (Addr×Obj)} {σ:St} {H:Hp} {s:Shared} {fp:List Addr} (I:Inv X pins σ H s) (hf:∀ b∈fp,qO X pins H b) (ho:∀ b∈fp,∃ o,s.heap.get? b=some o/\∀ v,o.data≠.cell v):Inv X (pins++tJ fp s.heap) σ H s:=
 I.pins_of fun p hp=>(List.mem_append.mp hp).elim (fun z=>I.pin p (List.mem_append_right _ z)) fun z=>by
  obtain ⟨hb,e⟩:=zEZ z
  obtain ⟨f0,f1,f2,_⟩:=hf p.1 hb
  obtain ⟨o,e',d⟩:=ho p.1 hb
  rw [e] at e';cases e'
  exact ⟨e,f0,f1,f2,d⟩
theorem Inv.unpinned {pins pl:List (Addr×Obj)} {σ:St} {H:Hp} {s:Shared} (I:Inv X (pins++pl) σ H s):Inv X pins σ H s:=I.pins_of fun p hp=>I.pin p (List.mem_append_right _ (List.mem_append_left _ hp))
theorem zJi {iter:Expr} {body:List Stmt} {wi:TI} {g:TG} {tb:TS} {pos:Pos} (hp:PassesOwn (model X.prog X.w) X.A X.env X.xe) (hc:X.calm=true) (hi:PI X tg iter wi) (hg:PG X tg g) (hb:PSs X body tb)
  (hs:∀ x,foldedSetIterable iter X.env x=pure x:=by intro _;rfl):PS X (.For tg iter body [] pos) (zPk wi g tb):=by
 intro pins s σ H D I h
 refine wpAny_For (thn (hi pins s σ H _ I h) fun v s1 h1=>thn h1 fun itv s2 h2=>?_) hs
 obtain ⟨it,fp,tn,J,H2,e,I2,T,st2,f2,W,⟨m0,w0⟩,turn⟩:=h2
 subst e
 have stat:∀ {H':Hp},(∀ b∈fp,H' b=none)->∀ b∈fp,qO X pins H' b:=fun hn b hb=>⟨hn b hb,(f2 b hb).2⟩
 refine codeAny_forLoop_any (fun n s'=>∃ i σ' H',Inv X pins σ' H' s'/\tn i s'.heap/\(∀ b∈fp,H' b=none)/\W i n σ' H') ?_ m0 ⟨0,σ,H2,I2,st2,fun b hb=>(f2 b hb).1,w0⟩
 rintro n s3 ⟨i,σ3,H3,I3,st3,fr3,w3⟩
 rcases turn i n σ3 H3 w3 with ⟨stop,qn⟩ | ⟨go,N,hN,step⟩
 ·refine wpAny_passesOwn hp (thn (T.done X rfl rfl rfl hc i pins s3 σ3 H3 X.xe I3 (stat fr3) st3 stop) fun r s4 ⟨hr,I4⟩=>?_)
  subst hr
  exact wpAny_execs_nil ⟨σ3,H3,I4,qn⟩
 ·refine wpAny_passesOwn hp (thn (T.item X rfl rfl rfl hc i pins s3 σ3 H3 X.xe I3 (stat fr3) st3 go) fun r s4 ⟨u,hr,h4⟩=>?_)
  subst hr
  refine wpAny_passesOwn hp (thn h4 fun _ s5 ⟨x,H5,I5,r5,y5,st5,fr5⟩=>?_)
  have I5':=I5.pinned (stat fr5) (T.obj _ _ st5)
  refine wpAny_passesOwn hp (thn (hg _ s5 σ3 H5 x u _ I5' r5 (step x H5 y5)) fun _ s6 ⟨σ6,H6,I6,q6⟩=>?_)
  refine wpAny_passesOwn hp (thn (hb _ s6 σ6 H6 _ I6 q6) fun f s7 q7=>?_)
  have again:∀ {σ7:St} {H7:Hp},Inv X (pins++tJ fp s5.heap) σ7 H7 s7->N σ7 H7->∃ m,m < n/\∃ i σ' H',Inv X pins σ' H' s7/\tn i s7.heap/\(∀ b∈fp,H' b=none)/\W i m σ' H':=fun {σ7 H7} I7 n7=>by
   obtain ⟨m',hm,w7⟩:=hN σ7 H7 n7
   refine ⟨m',hm,i+1,σ7,H7,I7.unpinned,T.keep _ _ _ st5 fun b hb o e=>(I7.pin (b,o) (List.mem_append_right _ (List.mem_append_right _ (eM hb e)))).1,fun b hb=>?_,w7⟩
   obtain ⟨o,e,d⟩:=T.obj _ _ st5 b hb
   exact (I7.pin (b,o) (List.mem_append_right _ (List.mem_append_right _ (eM hb e)))).2.1
  cases f with
  | next=>obtain ⟨σ7,H7,I7,n7⟩:=q7;exact again I7 n7
  | cont=>obtain ⟨σ7,H7,I7,n7⟩:=q7;exact again I7 n7
  | brk=>obtain ⟨σ7,H7,I7,q7⟩:=q7;exact ⟨σ7,H7,I7.unpinned,q7⟩
  | ret v=>obtain ⟨x7,σ7,H7,I7,r7,q7⟩:=q7;exact ⟨x7,σ7,H7,I7.unpinned,r7,q7⟩
end
end L2
namespace L2
open PySem PySem.Spec PyProof.Rows
abbrev R2:=V->V->Hp->VK->Prop
def OpR (X:Cx) (f:Value->Value->Sem Value) (r:R2):Prop:=
 ∀ (pins:List (Addr×Obj)) (s:Shared) (σ:St) (H:Hp) (x y:V) (v u:Value) (Q:VK),Inv X pins σ H s->cP x v->cP y u->r x y H Q->
  wpAny (model X.prog X.w) X.A (f v u) (EP X pins σ Q) X.xe s
def UnR (X:Cx) (f:Value->Sem Value) (r:V->Hp->VK->Prop):Prop:=
 ∀ (pins:List (Addr×Obj)) (s:Shared) (σ:St) (H:Hp) (x:V) (v:Value) (Q:VK),Inv X pins σ H s->cP x v->r x H Q->
  wpAny (model X.prog X.w) X.A (f v) (EP X pins σ Q) X.xe s
def vT (X:Cx) (f:Value) (r:List V->Hp->VK->Prop):Prop:=
 ∀ (pins:List (Addr×Obj)) (s:Shared) (σ:St) (H:Hp) (xs:List V) (us:List Value) (Q:VK),Inv X pins σ H s->cX xs us->r xs H Q->
  wpAny (model X.prog X.w) X.A (call f us) (EP X pins σ Q) X.xe s
abbrev tOp (r:R2) (ta tb:TE):TE:=fun σ H Q=>ta σ H fun x H1=>tb σ H1 fun y H2=>r x y H2 Q
abbrev tUn (r:V->Hp->VK->Prop) (ta:TE):TE:=fun σ H Q=>ta σ H fun x H1=>r x H1 Q
def rI (C:Int->Int->Prop) (g:Int->Int->V):R2:=fun x y H Q=>∃ i j,x=.int i/\y=.int j/\C i j/\Q (g i j) H
def rI0 (g:Int->Int->V):R2:=fun x y H Q=>∃ i j,x=.int i/\y=.int j/\Q (g i j) H
def rU (g:Int->V):V->Hp->VK->Prop:=fun x H Q=>∃ i,x=.int i/\Q (g i) H
section
variable {X:Cx} {a b c:Expr} {ta tb tc:TE} {pos:Pos}
theorem zOr (ha:PE X a ta) (hb:PE X b tb) {pins:List (Addr×Obj)} {s:Shared} {σ:St} {H:Hp} {R:V->V->Hp->Prop} (I:Inv X pins σ H s)
  (h:ta σ H fun x H1=>tb σ H1 fun y H2=>R x y H2) {Q:Value->Shared->Prop} {f:Value->Value->Sem Value}
  (hf:∀ v u s2 x y H2,Inv X pins σ H2 s2->cP x v->cP y u->R x y H2->wpAny (model X.prog X.w) X.A (f v u) Q X.xe s2):
  wpAny (model X.prog X.w) X.A (eval a X.env) (fun v s₁=>wpAny (model X.prog X.w) X.A (eval b X.env) (fun u s₂=>wpAny (model X.prog X.w) X.A (f v u) Q X.xe s₂) X.xe s₁) X.xe s:=by
 refine thn (ha pins s σ H _ I h) fun v s1 ⟨x,H1,I1,r1,q1⟩=>?_
 refine thn (hb pins s1 σ H1 _ I1 q1) fun u s2 ⟨y,H2,I2,r2,q2⟩=>?_
 exact hf v u s2 x y H2 I2 r1 r2 q2
theorem zFm {op:Operator} {r:R2} (ho:OpR X (binaryOp op) r) (ha:PE X a ta) (hb:PE X b tb):PE X (.BinOp a op b pos) (tOp r ta tb):=by
 intro pins s σ H Q I h
 exact wpAny_BinOp (zOr ha hb I h fun v u s2 x y H2 I2 rx ry q=>ho pins s2 σ H2 x y v u Q I2 rx ry q)
theorem zOl {op:UnaryOp} {r:V->Hp->VK->Prop} (ho:UnR X (unaryOp op) r) (ha:PE X a ta):PE X (.UnaryOp op a pos) (tUn r ta):=by
 intro pins s σ H Q I h
 exact UnaryOp_ (thn (ha pins s σ H _ I h) fun v s1 ⟨x,H1,I1,r1,q1⟩=>ho pins s1 σ H1 x v Q I1 r1 q1)
theorem opI {f:Value->Value->Sem Value} {C:Int->Int->Prop} {g:Int->Int->Int}
  (rule:∀ (i j:Int) (t u:Tok) (s:Shared) (Q:Value->Shared->Prop) (E:Value->Shared->Prop),C i j->Q (.int (g i j) s.toks) { s with toks:=s.toks+1 }->wpAny (model X.prog X.w) X.A (f (.int i t) (.int j u)) Q E s):
  OpR X f (rI C fun i j=>.int (g i j)):=by
 intro pins s σ H x y v u Q I rx ry h
 obtain ⟨i,j,rfl,rfl,hc,q⟩:=h
 obtain ⟨t,rfl⟩:=rx
 obtain ⟨t',rfl⟩:=ry
 exact rule i j t t' s _ _ hc ⟨.int (g i j),H,I.tok _,⟨_,rfl⟩,q⟩
theorem zPc {f:Value->Value->Sem Value} {g:Int->Int->Int}
  (rule:∀ (i j:Int) (t u:Tok) (s:Shared) (Q:Value->Shared->Prop) (E:Value->Shared->Prop),Q (.int (g i j) s.toks) { s with toks:=s.toks+1 }->wpAny (model X.prog X.w) X.A (f (.int i t) (.int j u)) Q E s):
  OpR X f (rI0 fun i j=>.int (g i j)):=by
 intro pins s σ H x y v u Q I rx ry h
 obtain ⟨i,j,rfl,rfl,q⟩:=h
 obtain ⟨t,rfl⟩:=rx
 obtain ⟨t',rfl⟩:=ry
 exact rule i j t t' s _ _ ⟨.int (g i j),H,I.tok _,⟨_,rfl⟩,q⟩
theorem zPd {f:Value->Value->Sem Value} {g:Int->Int->Bool}
  (rule:∀ (i j:Int) (t u:Tok) (s:Shared) (Q:Value->Shared->Prop) (E:Value->Shared->Prop),Q (.bool (g i j)) s->wpAny (model X.prog X.w) X.A (f (.int i t) (.int j u)) Q E s):
  OpR X f (rI0 fun i j=>.bl (g i j)):=by
 intro pins s σ H x y v u Q I rx ry h
 obtain ⟨i,j,rfl,rfl,q⟩:=h
 obtain ⟨t,rfl⟩:=rx
 obtain ⟨t',rfl⟩:=ry
 exact rule i j t t' s _ _ ⟨.bl (g i j),H,I,rfl,q⟩
def zNT (i j:Int):Prop:=(-(2^64) < i/\i < 2^64)∨(-(2^64) < j/\j < 2^64)
theorem zNT.ok {i j:Int} (h:zNT i j):IntMulOk i j:=by
 rcases h with ⟨h1,h2⟩ | ⟨h1,h2⟩
 ·exact .of_left (intBits_le_64 h1 h2)
 ·exact .of_right (intBits_le_64 h1 h2)
theorem zMh:OpR X (binaryOp .Add) (rI0 fun i j=>.int (i+j)):=zPc fun _ _ _ _ _ _ _ q=>add_int q
theorem jG:OpR X (binaryOp .Sub) (rI0 fun i j=>.int (i - j)):=zPc fun _ _ _ _ _ _ _ q=>sub_int q
theorem lD:OpR X (binaryOp .Mod) (rI (fun _ j=>j≠0) fun i j=>.int (i.fmod j)):=opI fun _ _ _ _ _ _ _ hc q=>mod_int' hc q
theorem unI {f:Value->Sem Value} {g:Int->Int}
  (rule:∀ (i:Int) (t:Tok) (s:Shared) (Q:Value->Shared->Prop) (E:Value->Shared->Prop),Q (.int (g i) s.toks) { s with toks:=s.toks+1 }->wpAny (model X.prog X.w) X.A (f (.int i t)) Q E s):
  UnR X f (rU fun i=>.int (g i)):=by
 intro pins s σ H x v Q I rx h
 obtain ⟨i,rfl,q⟩:=h
 obtain ⟨t,rfl⟩:=rx
 exact rule i t s _ _ ⟨.int (g i),H,I.tok _,⟨_,rfl⟩,q⟩
theorem zMn:UnR X (unaryOp .USub) (rU fun i=>.int (-i)):=unI fun _ _ _ _ _ q=>neg_int q
end
section
variable {X:Cx} {a b c:Expr} {ta tb tc:TE} {pos:Pos}
theorem xA:OpR X (compareOp .Lt) (rI0 fun i j=>.bl (decide (i < j))):=zPd fun _ _ _ _ _ _ _ q=>lt_int q
theorem zGM:OpR X (compareOp .Gt) (rI0 fun i j=>.bl (decide (j < i))):=zPd fun _ _ _ _ _ _ _ q=>gt_int q
theorem OpR.or {f:Value->Value->Sem Value} {r r':R2} (h:OpR X f r) (h':OpR X f r'):OpR X f (fun x y H Q=>r x y H Q∨r' x y H Q):=by
 intro pins s σ H x y v u Q I rx ry q
 rcases q with q | q
 ·exact h pins s σ H x y v u Q I rx ry q
 ·exact h' pins s σ H x y v u Q I rx ry q
theorem bB (b:Expr) {op:CmpOp} (h:op≠.In:=by decide) (h2:op≠.NotIn:=by decide):behindInMarks op b=false:=by
 have e1:(op==CmpOp.In)=false:=by cases op<;>first | rfl | exact absurd rfl h
 have e2:(op==CmpOp.NotIn)=false:=by cases op<;>first | rfl | exact absurd rfl h2
 cases b<;>simp [behindInMarks,e1,e2]
theorem zJS {op:CmpOp} {r:R2} (ho:OpR X (compareOp op) r) (ha:PE X a ta) (hb:PE X b tb) (hm:behindInMarks op b=false):PE X (.Compare a [op] [b] pos) (tOp r ta tb):=by
 intro pins s σ H Q I h
 exact wpAny_Compare1 (zOr ha hb I h fun v u s2 x y H2 I2 rx ry q=>ho pins s2 σ H2 x y v u Q I2 rx ry q) hm
abbrev zLC (t:TE):TT:=fun σ H Q=>t σ H fun x H'=>∃ k,x=.bl k/\Q k H'
theorem zEP {op:CmpOp} {r:R2} (ho:OpR X (compareOp op) r) (ha:PE X a ta) (hb:PE X b tb) (hm:behindInMarks op b=false):PT X (.Compare a [op] [b] pos) (zLC (tOp r ta tb)):=by
 intro pins s σ H Q I h
 refine wpAny_isTrue_Compare1 (thn (ha pins s σ H _ I h) fun v s1 ⟨x,H1,I1,r1,q1⟩=>thn (hb pins s1 σ H1 _ I1 q1) fun u s2 ⟨y,H2,I2,r2,q2⟩=>
  thn (ho pins s2 σ H2 x y v u _ I2 r1 r2 q2) fun c s3 ⟨z,H3,I3,r3,k,e,q3⟩=>?_) hm
 subst e
 cases r3
 exact wpAny_truthy_bool ⟨H3,I3,q3⟩
theorem zDn:(sizeLine:Nat) < 2^63:=by rw [sizeLine_eq];decide
theorem zDH {x:V} {us:List Value} (r:cX [x] us):∃ u,us=[u]/\cP x u:=by
 cases r with
 | cons r1 r2=>cases r2;exact ⟨_,rfl,r1⟩
theorem zOd {x y:V} {us:List Value} (r:cX [x,y] us):∃ u w',us=[u,w']/\cP x u/\cP y w':=by
 cases r with
 | cons r1 r2=>
  cases r2 with
  | cons r3 r4=>cases r4;exact ⟨_,_,rfl,r1,r3⟩
theorem rC:vT X (.builtin "abs") (fun xs H Q=>∃ i,xs=[.int i]/\Q (.int (if i < 0 then -i else i)) H):=by
 intro pins s σ H xs us Q I r h
 obtain ⟨i,rfl,q⟩:=h
 obtain ⟨u,rfl,t,rfl⟩:=zDH r
 exact call_abs_int fun u tk=>⟨.int (if i < 0 then -i else i),H,I.tok _,⟨_,rfl⟩,q⟩
end
end L2
namespace L2
open PySem PySem.Spec PyProof.Rows
section
variable {prog:Program} {w:World} {A:Around} {E:Value->Shared->Prop} {s:Shared} {K:PySem.W.Frag} {x dx C f:Addr} {mA:Str->Option Value} {name:Str} {v:Value}
end
section
variable {P:Program} {w:World} {H H':Hp} {h h':Heap} {a C dx:Addr} {fs fs':List (Str×V)}
end
section
variable {X:Cx} {pins:List (Addr×Obj)} {σ:St} {H:Hp} {s:Shared} {a C dx:Addr} {fs:List (Str×V)} {f:Str} {v:V} {A:Around} {E:Value->Shared->Prop}
end
section
variable {X:Cx} {o e value:Expr} {f:Str} {pos pos' tpos:Pos} {ta tv:TE}
end
section
variable {X:Cx} {pins:List (Addr×Obj)} {σ:St} {H:Hp} {s:Shared} {A:Around} {E:Value->Shared->Prop} {Q:Value->Shared->Prop} {c:Value} {b:Bool}
end
end L2
namespace L2
open PySem PySem.Spec PyProof.Rows
structure Room (k:Nat) (A:Around):Prop where
 hd:A.handled=none
 dp:A.depth+3 * k+5 < recursionLimit
 un:A.units+16 * k+200 < cLine
theorem Room.mono {j k:Nat} {A:Around} (r:Room k A) (h:j<=k):Room j A:=⟨r.hd,by have:=r.dp;omega,by have:=r.un;omega⟩
theorem Room.deeper {k:Nat} {A:Around} (r:Room (k+1) A) (env:Env):Room k (A.deeper env):=
 ⟨r.hd,by have:=r.dp;show A.depth+1+3 * k+5 < _;omega,by have:=r.un;show A.units+3+16 * k+200 < _;omega⟩
theorem Room.depth {k:Nat} {A:Around} (r:Room k A):A.depth < recursionLimit:=by have:=r.dp;omega
theorem Room.units {k:Nat} {A:Around} (r:Room k A):A.units+64 < cLine:=by have:=r.un;omega
abbrev zPN:TA:=fun _ H Q=>Q [] H
abbrev zOC (ta:TE) (tr:TA):TA:=fun σ H Q=>ta σ H fun x H1=>tr σ H1 fun xs H2=>Q (x::xs) H2
section
variable {X:Cx} {e:Expr} {es:List Expr} {te:TE} {t:TA} {pos:Pos}
theorem kY:PA X [] zPN:=fun _ _ _ _ H Q I h=>Calls.spliced_nil ⟨[],H,I,.nil,h⟩
theorem dB (ha:PE X e te) (hr:PA X es t) (hs:starEach (e::es) X.env=(false,eval e X.env)::starEach es X.env:=by rfl):PA X (e::es) (zOC te t):=by
 intro pos pins s σ H Q I h
 rw [hs]
 show wpAny _ _ (spliced ((false,eval e X.env)::backTo pos (starEach es X.env))) _ _ s
 refine Calls.spliced_cons (thn (ha pins s σ H _ I h) fun u s1 ⟨x,H1,I1,r1,q1⟩=>?_)
 exact thn (hr pos pins s1 σ H1 _ I1 q1) fun us s2 ⟨xs,H2,I2,r2,q2⟩=>⟨x::xs,H2,I2,.cons r1 r2,q2⟩
abbrev zPF (t:TA):TE:=fun σ H Q=>t σ H fun xs H1=>xs.length<=sizeLine/\∀ p,H1 p=none->Q (.ref p) (upd H1 p (.tup xs))
abbrev zPy (t:TA):TE:=fun σ H Q=>t σ H fun xs H1=>xs.length<=sizeLine/\∀ p,H1 p=none->Q (.ref p) (upd H1 p (.lst xs))
theorem zLQ {x1} (h:PA X es t):PE X (.Tuple es x1 pos) (zPF t):=by
 intro pins s σ H Q I hq
 refine wpAny_Tuple_spliced (thn (h pos pins s σ H _ I hq) fun us s1 ⟨xs,H1,I1,r,z,q⟩=>⟨by rw [<-r.length];exact z,?_⟩)
 have hf:H1 s1.heap.objs.size=none:=I1.hok.fresh (Nat.le_refl _)
 refine ⟨.ref s1.heap.objs.size,upd H1 s1.heap.objs.size (.tup xs),I1.laid (t':=s1.toks) (fun b u e=>Heap.get?_push_of_some _ e) (Nat.le_refl _) ?_,rfl,q _ hf⟩
 exact ⟨z,us,r,⟨_,Heap.get?_push_size _ rfl,rfl,_,rfl⟩⟩
theorem zNJ (h:PA X es t):PE X (.List es pos) (zPy t):=by
 intro pins s σ H Q I hq
 refine wpAny_List_spliced (thn (h pos pins s σ H _ I hq) fun us s1 ⟨xs,H1,I1,r,z,q⟩=>⟨by rw [<-r.length];exact z,?_⟩)
 have hf:H1 s1.heap.objs.size=none:=I1.hok.fresh (Nat.le_refl _)
 refine ⟨.ref s1.heap.objs.size,upd H1 s1.heap.objs.size (.lst xs),I1.laid (t':=s1.toks) (fun b u e=>Heap.get?_push_of_some _ e) (Nat.le_refl _) ?_,rfl,q _ hf⟩
 exact ⟨z,us,0,r,Heap.get?_push_size _ rfl⟩
end
abbrev Sp:=List V->Hp->VK->XK->Prop
abbrev CXT:=List Env->Hp->Shared->XK->Value->Shared->Prop
structure Env0 (P:Program) (w:World) (K:PySem.W.Frag) (mg:Str->Option Value) (base:Heap) (A:Around) (outer:List Env) (s:Shared) (H:Hp):Prop where
 frames:A.frames=some outer
 mod:Mod K mg base
 bs:∀ b o,base.get? b=some o->s.heap.get? b=some o/\H b=none
 bsz:base.objs.size<=s.heap.objs.size
 funs:s.heap.FunFrames base outer
 frf:∀ b∈frs outer,H b=none
 hok:HOk P w H s.heap
 bare:AllBare s.gens
def CE (outer:List Env) (P:Program) (w:World) (H:Hp) (s:Shared) (Q:VK) (u:Value) (s':Shared):Prop:=
 ∃ v H',s'.os=s.os/\AllBare s'.gens/\Un (frs outer) [] H H' s.heap s'.heap/\HOk P w H' s'.heap/\cP v u/\Q v H'
def CR (CX:CXT) (outer:List Env) (P:Program) (w:World) (H:Hp) (s:Shared) (Q:VK) (E:XK) (r:Result) (s':Shared):Prop:=
 match r with
 | .ok (.ret u)=>CE outer P w H s Q u s'
 | .ok _=>False
 | .error e=>CX outer H s E e s'
structure FnOk (P:Program) (w:World) (K:PySem.W.Frag) (mg:Str->Option Value) (base:Heap) (CX:CXT) (k:Nat) (f:Addr) (fd:FuncData) (ps:List Str) (sp:Sp):Prop where
 len:∀ vs H Q E,sp vs H Q E->vs.length=ps.length
 run:∀ (A:Around) (outer:List Env) (s:Shared) (H:Hp) (args:Args) (us:List Value) (vs:List V) (Q:VK) (E:XK),Room k A->Env0 P w K mg base A outer s H->BindsTo s fd args (ps.zip us)->cX vs us->sp vs H Q E->
  codeAny (model P w) A (.call (.ref f) args) (CR CX outer P w H s Q E) s
theorem FnOk.mono {P:Program} {w:World} {K:PySem.W.Frag} {mg:Str->Option Value} {base:Heap} {CX:CXT} {j k:Nat} {f:Addr} {fd:FuncData} {ps:List Str} {sp:Sp} (F:FnOk P w K mg base CX j f fd ps sp) (h:j<=k):
  FnOk P w K mg base CX k f fd ps sp:=⟨F.len,fun A outer s H args us vs Q E hr=>F.run A outer s H args us vs Q E (hr.mono h)⟩
theorem FnOk.imp {P:Program} {w:World} {K:PySem.W.Frag} {mg:Str->Option Value} {base:Heap} {CX:CXT} {k:Nat} {f:Addr} {fd:FuncData} {ps:List Str} {sp sp':Sp} (F:FnOk P w K mg base CX k f fd ps sp)
  (h:∀ vs H Q E,sp' vs H Q E->sp vs H Q E):FnOk P w K mg base CX k f fd ps sp':=
 ⟨fun vs H Q E q=>F.len vs H Q E (h _ _ _ _ q),fun A outer s H args us vs Q E hr he hb hv hs=>F.run A outer s H args us vs Q E hr he hb hv (h _ _ _ _ hs)⟩
theorem Env0.in1 {P:Program} {w:World} {K:PySem.W.Frag} {mg:Str->Option Value} {base:Heap} {A:Around} {outer:List Env} {s:Shared} {H:Hp} (e:Env0 P w K mg base A outer s H):
  Env0 P w K mg base A.in1 outer s H:=⟨e.frames,e.mod,e.bs,e.bsz,e.funs,e.frf,e.hok,e.bare⟩
section
variable {X:Cx} {pins:List (Addr×Obj)} {σ:St} {H:Hp} {s s':Shared}
theorem Inv.env0 (I:Inv X pins σ H s):Env0 X.prog X.w X.K X.mg X.base X.A X.stack s H:=
 ⟨I.ok.frames,I.ok.mod,I.bs,Nat.le_trans I.ok.bsz I.sz,I.stack,I.stkFree,I.hok,I.bare⟩
theorem Inv.after {Q:VK} {u:Value} (I:Inv X pins σ H s) (h:CE X.stack X.prog X.w H s Q u s'):EP X pins σ Q u s':=by
 obtain ⟨v,H',os,bare,un,hok,r,q⟩:=h
 obtain ⟨hh,g,d,t,os'⟩:=s'
 obtain rfl:os'=s.os:=os
 exact ⟨v,H',I.call (h':=hh) (g':=g) (d':=d) (t':=t) (ch:=[]) un hok bare (fun b z=>absurd z (by simp)),r,q⟩
end
abbrev zLm (sp:Sp) (dvs:List V) (E:XK) (t:TA):TE:=fun σ H Q=>t σ H fun vs H1=>sp (vs++dvs) H1 Q E
def xO (K:PySem.W.Frag) (fd:FuncData) (ps:List Str) (ds:List Value):Prop:=
 ∀ (s:Shared) (us:List Value),K.In s.heap->(us++ds).length=ps.length->BindsTo s fd ⟨us,[]⟩ (ps.zip (us++ds))
theorem xO.all {K:PySem.W.Frag} {fd:FuncData} {ps:List Str} (h:∀ us:List Value,us.length=ps.length->bindArgs fd ⟨us,[]⟩=pure (ps.zip us)):xO K fd ps []:=fun s us _ hl=>by
 rw [List.append_nil] at hl ⊢
 exact .of_eq (h us hl)
def zDf (CX:CXT) (X:Cx) (E:XK):Prop:=∀ (pins:List (Addr×Obj)) (σ:St) (H:Hp) (s:Shared) (e:Value) (s':Shared),Inv X pins σ H s->CX X.stack H s E e s'->X.xe e s'
section
variable {X:Cx} {CX:CXT} {k:Nat} {f C:Addr} {fd:FuncData} {ps:List Str} {sp:Sp} {dvs:List V} {ds:List Value} {E:XK} {x m:Str} {p pos apos:Pos} {e o:Expr} {es:List Expr} {ta:TE} {t:TA}
theorem zMt {pins:List (Addr×Obj)} {σ:St} {H:Hp} {s:Shared} {Q:VK} {us:List Value} {vs:List V} (F:FnOk X.prog X.w X.K X.mg X.base CX k f fd ps sp) (hr:Room k X.A) (hb:xO X.K fd ps ds) (hd:cX dvs ds) (hx:zDf CX X E)
  (I:Inv X pins σ H s) (r:cX vs us) (h:sp (vs++dvs) H Q E):wpAny (model X.prog X.w) X.A (call (.ref f) us) (EP X pins σ Q) X.xe s:=by
 have r2:cX (vs++dvs) (us++ds):=r.append hd
 have hl:(us++ds).length=ps.length:=by rw [<-r2.length];exact F.len _ _ _ _ h
 refine wpAny_call (codeAny_mono (F.run X.A X.stack s H ⟨us,[]⟩ (us++ds) (vs++dvs) Q E hr I.env0 (hb s us I.kIn hl) r2 h) fun r s' hq=>?_)
 cases r with
 | error e=>exact hx pins σ H s e s' I hq
 | ok fl=>
  cases fl with
  | ret u=>exact I.after hq
  | next=>exact False.elim hq
  | brk=>exact False.elim hq
  | cont=>exact False.elim hq
theorem tQ (F:FnOk X.prog X.w X.K X.mg X.base CX k f fd ps sp) (hr:Room k X.A) (hg:Gl X x) (hm:X.mg x=some (.ref f)) (hk:PySem.W.keepIn X.K (.ref f)=true) (hb:xO X.K fd ps ds) (hd:cX dvs ds) (hx:zDf CX X E)
  (ha:PA X (e::es) t) (hdb:(x==("__debug__" : Str))=false:=by decide) (he:starEach (e::es) X.env=(false,eval e X.env)::starEach es X.env:=by rfl) (hpl:(backTo pos (starEach es X.env)).any (·.1)=false:=by rfl):
  PE X (.Call (.Name x p) (e::es) [] pos) (zLm sp dvs E t):=by
 intro pins s σ H Q I h
 refine wpAny_Call_Name_kw (zBI I hg hm ?_ hdb)
 refine PySem.W.callWith_K (h₀:=X.base) I.ok.mod.kin hk (thn (ha pos pins s σ H _ I h) fun us s1 ⟨vs,H1,I1,r,q⟩=>⟨I1.kIn,?_⟩) he hpl
 exact zMt F hr hb hd hx I1 r q
end
section
variable {X:Cx} {CX:CXT} {k:Nat} {f C:Addr} {fd:FuncData} {ps ks:List Str} {sp:Sp} {E:XK} {x m:Str} {p pos apos kpos:Pos} {e o:Expr} {es:List Expr} {kws:List Keyword} {te ta:TE} {t tk:TA} {nm:Option Str}
variable {g:List Value->List Value->List Value} {gV:List V->List V->List V}
end
structure FnScope (N P:List Str) (sc:Scope):Prop where
 kind:sc.kind=.function
 co:sc.isCoroutine=false
 gen:sc.isGenerator=false
 nd:N.Nodup
 pre:N.take P.length=P
 par:∀ x∈P,sc.names.lookup x=some .local∨sc.names.lookup x=some .cell
 nofree:∀ y∈sc.names,y.2≠.free
theorem zAP {kindOf:Str->Option NameKind} {x:Str}:∀ {binds:List (Str×Value)} {m:Str->Option Value},(∀ v,(x,v)∉binds)->bindL kindOf binds m x=m x
 | [],_,_=>rfl
 | (n,v)::r,m,h=>by
  unfold bindL
  rw [zAP fun w hw=>h w (List.mem_cons_of_mem _ hw)]
  split
  ·have:x≠n:=by rintro rfl;exact h v List.mem_cons_self
   simp [this]
  ·rfl
theorem zP {kindOf:Str->Option NameKind} {x:Str}:∀ {binds:List (Str×Value)} {m:Str->Option Value},(∀ v,(x,v)∉binds)->bindC kindOf binds m x=m x
 | [],_,_=>rfl
 | (n,v)::r,m,h=>by
  unfold bindC
  rw [zP fun w hw=>h w (List.mem_cons_of_mem _ hw)]
  split
  ·rfl
  ·have:x≠n:=by rintro rfl;exact h v List.mem_cons_self
   simp [this]
theorem zAw {kindOf:Str->Option NameKind} {x:Str} {v:Value}:∀ {P:List Str} {vs:List Value} {i:Nat} {m:Str->Option Value},P.Nodup->P[i]?=some x->vs[i]?=some v->kindOf x=some .local->
  bindL kindOf (P.zip vs) m x=some v
 | [],_,_,_,_,h,_,_=>by simp at h
 | _::_,[],_,_,_,_,h,_=>by simp at h
 | p::P,w::vs,0,m,nd,h1,h2,hk=>by
  simp at h1 h2;subst h1;subst h2
  show bindL kindOf ((p,w)::P.zip vs) m p=_
  unfold bindL
  rw [zAP fun v hv=>(List.nodup_cons.mp nd).1 (List.of_mem_zip hv).1,if_pos hk]
  simp
 | p::P,w::vs,i+1,m,nd,h1,h2,hk=>by
  show bindL kindOf ((p,w)::P.zip vs) m x=_
  unfold bindL
  exact zAw (i:=i) (List.nodup_cons.mp nd).2 (by simpa using h1) (by simpa using h2) hk
theorem zAQ {kindOf:Str->Option NameKind} {x:Str} {v:Value}:∀ {P:List Str} {vs:List Value} {i:Nat} {m:Str->Option Value},P.Nodup->P[i]?=some x->vs[i]?=some v->kindOf x≠some .local->
  bindC kindOf (P.zip vs) m x=some v
 | [],_,_,_,_,h,_,_=>by simp at h
 | _::_,[],_,_,_,_,h,_=>by simp at h
 | p::P,w::vs,0,m,nd,h1,h2,hk=>by
  simp at h1 h2;subst h1;subst h2
  show bindC kindOf ((p,w)::P.zip vs) m p=_
  unfold bindC
  rw [zP fun v hv=>(List.nodup_cons.mp nd).1 (List.of_mem_zip hv).1,if_neg hk]
  simp
 | p::P,w::vs,i+1,m,nd,h1,h2,hk=>by
  show bindC kindOf ((p,w)::P.zip vs) m x=_
  unfold bindC
  exact zAQ (i:=i) (List.nodup_cons.mp nd).2 (by simpa using h1) (by simpa using h2) hk
def start (N:List Str) (vs:List V):St:=vs.map some++List.replicate (N.length - vs.length) none
def zEh (CX:CXT) (P:Program) (w:World) (K:PySem.W.Frag) (mg:Str->Option Value) (base:Heap) (N:List Str) (qual:Str) (scope:Scope) (f:Addr) (cd:Value) (A:Around) (outer:List Env) (s:Shared) (H:Hp) (E:XK):Cx where
 prog:=P
 w:=w
 K:=K
 mg:=mg
 base:=base
 A:=A.deeper (envOfC qual scope s.heap.objs.size f cd)
 N:=N
 s₀:=s
 H₀:=H
 env:=envOfC qual scope s.heap.objs.size f cd
 outer:=outer
 stack:=envOfC qual scope s.heap.objs.size f cd::outer
 ex:=[]
 calm:=true
 fn:=fun _=>true
 pn:=[]
 xe:=fun e s'=>wpAny (model P w) (A.deeper (envOfC qual scope s.heap.objs.size f cd)) (leaving (envOfC qual scope s.heap.objs.size f cd) e) (fun _ s''=>CX outer H s E e s'') (fun e' s''=>CX outer H s E e' s'') s'
theorem zDy {sc:Scope} {n:Nat} {x:Str} (h:sc.names.lookup x=some .cell):∃ c,(cellsFrom n sc.names []).lookup x=some c:=by
 have q:=PySem.W.cellsFrom_some sc.names n [] (.inl h)
 exact Option.isSome_iff_exists.mp q
theorem zES {CX:CXT} {P:Program} {w:World} {K:PySem.W.Frag} {mg:Str->Option Value} {base:Heap} {N ps:List Str} {qual:Str} {scope:Scope} {f:Addr} {cd:Value} {A:Around} {outer:List Env} {s s1:Shared} {H:Hp} {E:XK} {us:List Value} {vs:List V}
  (S:FnScope N ps scope) (hd:A.handled=none) (e0:Env0 P w K mg base A outer s H) (hl:vs.length=ps.length) (r:cX vs us)
  (x:InCallC s s.heap.objs.size (bindL (envOfC qual scope s.heap.objs.size f cd).kindOf (ps.zip us) fun _=>none) (cellsFrom (s.heap.objs.size+1) scope.names []) (bindC (envOfC qual scope s.heap.objs.size f cd).kindOf (ps.zip us) fun _=>none) s1):
  Inv (zEh CX P w K mg base N qual scope f cd A outer s H E) [] (start N vs) H s1:=by
 have hpl:ps.length<=N.length:=by have:=congrArg List.length S.pre;rw [List.length_take] at this;omega
 obtain ⟨h1,tk,rfl,hk⟩:=x.done
 have noA:∀ b:Addr,b∉(zEh CX P w K mg base N qual scope f cd A outer s H E).ex:=fun b z=>absurd (show b∈([]:List Addr) from z) (by simp)
 refine ⟨⟨e0.mod,S.kind,rfl,rfl,Nat.le_refl _,fun y z c h1 h2=>?_,fun y hy=>?_,fun y c _ h=>?_,fun _=>hd,Around.frames_deeper e0.frames,.inr ⟨rfl,rfl⟩,fun b z=>absurd z (noA b),e0.bs,e0.bsz,fun b _ _=>noA b,fun b z=>absurd z (noA b),e0.funs,e0.frf⟩,
  rfl,e0.bare,Un.kept hk,⟨_,x.toInCall.ns,fun i y v h1 h2 h3=>?_⟩,fun y c h=>⟨_,x.cell y c h⟩,e0.hok.fresh (Nat.le_refl _),fun y c h=>?_,fun p hp=>absurd (show p∈([]:List (Addr×Obj)) from hp) (by simp),e0.hok.kept hk,?_⟩
 ·exact name_of_addr x.apart (PySem.mem_of_lookup h1) (PySem.mem_of_lookup h2)
 ·have hy:scope.names.lookup y=some .cell∨scope.names.lookup y=some .free:=hy
  rcases hy with hy | hy
  ·exact zDy hy
  ·exact absurd rfl (S.nofree _ (PySem.mem_of_lookup hy))
 ·exact Nat.le_of_lt (x.above y c (PySem.mem_of_lookup h))
 ·have hi:i < vs.length:=by
   unfold start at h2
   by_cases hi:i < vs.length
   ·exact hi
   ·rw [List.getElem?_append_right (by simpa using hi)] at h2
    rw [List.getElem?_replicate] at h2
    split at h2<;>cases h2
  have ha:vs[i]?=some v:=by
   unfold start at h2
   rw [List.getElem?_append_left (by simpa using hi),List.getElem?_map] at h2
   cases e:vs[i]? with
   | none=>rw [e] at h2;cases h2
   | some a=>rw [e] at h2;cases h2;rfl
  obtain ⟨u,hu,rv⟩:=r.get ha
  have hp:ps[i]?=some y:=by
   rw [<-S.pre,List.getElem?_take_of_lt (by omega)];exact h1
  have ndP:ps.Nodup:=by rw [<-S.pre];exact S.nd.sublist (List.take_sublist _ _)
  refine ⟨u,rv,?_⟩
  rcases S.par y (List.mem_of_getElem? hp) with k | k
  ·exact .inl ⟨k,zAw ndP hp hu k⟩
  ·obtain ⟨c,e⟩:=zDy (n:=s.heap.objs.size+1) k
   refine .inr ⟨.inl k,c,e,?_⟩
   have q:=x.cell y c e
   rw [zAQ ndP hp hu (by show scope.names.lookup y≠_;rw [k];decide)] at q
   exact q
 ·exact e0.hok.fresh (Nat.le_of_lt (x.above y c (PySem.mem_of_lookup h)))
 ·unfold start
  show _=N.length
  rw [List.length_append,List.length_map,List.length_replicate]
  omega
theorem zKX {CX:CXT} {P:Program} {w:World} {K:PySem.W.Frag} {mg:Str->Option Value} {base:Heap} {k:Nat} {f:Addr} {name qual:Str} {params:Arguments} {body:List Stmt} {scope:Scope} {dV kV doc pm cdv ct oc:Value} {an od:Option Addr}
  {osl:Array (Option Value)} {N ps:List Str} {sp:Sp} (lk:K.lookup f=some ⟨oc,od,.func (PySem.W.fnOf name qual params body scope dV kV doc pm an cdv ct),osl⟩) (hcd:PySem.W.codeIn K cdv qual=true) (S:FnScope N ps scope)
  (len:∀ vs H Q E,sp vs H Q E->vs.length=ps.length)
  (hbody:∀ (A:Around) (outer:List Env) (s:Shared) (H:Hp) (vs:List V) (Q:VK) (E:XK),Room k (A.deeper (envOfC qual scope s.heap.objs.size f cdv))->sp vs H Q E->
   ∃ t,PSs (zEh CX P w K mg base N qual scope f cdv A outer s H E) body t/\t { nx:=fun _ H'=>Q .non H',rt:=Q } (start N vs) H):
  FnOk P w K mg base CX (k+1) f (PySem.W.fnOf name qual params body scope dV kV doc pm an cdv ct) ps sp:=by
 refine ⟨len,fun A outer s H args us vs Q E hr e0 hb r hsp=>?_⟩
 have hl:=len _ _ _ _ hsp
 have KX:K.In s.heap:=e0.mod.kin.keeps fun b o e=>(e0.bs b o e).1
 have lim:s.heap.NoLimit:=e0.mod.nolimit.keeps fun b o e=>(e0.bs b o e).1
 have hkind:∀ y∈ps.zip us,scope.names.lookup y.1=some .local∨(scope.names.lookup y.1=some .cell/\((cellsFrom (s.heap.objs.size+1) scope.names []).lookup y.1).isSome=true):=fun ⟨n,v⟩ hy=>by
  rcases S.par n (List.of_mem_zip hy).1 with q | q
  ·exact .inl q
  ·exact .inr ⟨q,PySem.W.cellsFrom_some _ _ _ (.inl q)⟩
 refine codeAny_call_function hr.depth (KX _ _ lk) rfl S.co S.gen rfl (PySem.W.codeRec_of KX hcd) (hb _ _ _ _ ?_)
 refine wpAny_newFunctionEnv_cells S.kind hkind fun env he s1 x=>?_
 subst he
 refine ⟨lim.keeps x.toInCall.keep,codeAny_func ?_⟩
 obtain ⟨t,ht,hq⟩:=hbody A outer s H vs Q E (hr.deeper _) hsp
 have I:Inv (zEh CX P w K mg base N qual scope f cdv A outer s H E) [] (start N vs) H s1:=zES S hr.hd e0 hl r x
 refine wpAny_mono (ht [] s1 (start N vs) H _ I hq) (fun fl s' hs=>?_) fun e s' hs=>hs
 have fin:∀ {σ':St} {H':Hp} {v:V} {u:Value},Inv (zEh CX P w K mg base N qual scope f cdv A outer s H E) [] σ' H' s'->cP v u->Q v H'->CE outer P w H s Q u s':=
  fun {σ' H' v u} J rv q=>⟨v,H',J.os,J.bare,J.base,J.hok,rv,q⟩
 cases fl with
 | ret u=>
  obtain ⟨v,σ',H',J,rv,q⟩:=hs
  exact fin J rv q
 | next=>
  obtain ⟨σ',H',J,q⟩:=hs
  exact fin (v:=V.non) (u:=Value.none) J rfl q
 | brk=>
  obtain ⟨_,_,_,q⟩:=hs
  exact False.elim q
 | cont=>
  obtain ⟨_,_,_,q⟩:=hs
  exact False.elim q
end L2
namespace L2
open PySem PySem.Spec PyProof.Rows
section
variable {X:Cx} {x:Str} {p pos:Pos} {e:Expr} {es:List Expr} {t:TA} {id T:String} {r:List V->Hp->VK->Prop}
abbrev tCB (r:List V->Hp->VK->Prop) (t:TA):TE:=fun σ H Q=>t σ H fun vs H1=>r vs H1 Q
theorem yO (hc:vT X (.builtin id) r) (hg:Gl X x) (hm:X.mg x=none) (hv:bootBuiltins x=some (.builtin id)) (ha:PA X (e::es) t) (hn:x ≠ "__name__" := by decide) (hdb:(x==("__debug__" : Str))=false:=by decide)
  (he:starEach (e::es) X.env=(false,eval e X.env)::starEach es X.env:=by rfl) (hpl:(backTo pos (starEach es X.env)).any (·.1)=false:=by rfl):PE X (.Call (.Name x p) (e::es) [] pos) (tCB r t):=by
 intro pins s σ H Q I h
 refine wpAny_Call_Name_kw (lV I hg hm hv ?_ hn hdb)
 exact PyProof.Rows.callWith_builtin1 (thn (ha pos pins s σ H _ I h) fun us s1 ⟨vs,H1,I1,r1,q1⟩=>hc pins s1 σ H1 vs us Q I1 r1 q1) he hpl
theorem zQ (hc:vT X (.type T) r) (hg:Gl X x) (hm:X.mg x=none) (hv:bootBuiltins x=some (.type T)) (ha:PA X (e::es) t) (hn:x ≠ "__name__" := by decide) (hdb:(x==("__debug__" : Str))=false:=by decide)
  (he:starEach (e::es) X.env=(false,eval e X.env)::starEach es X.env:=by rfl) (hpl:(backTo pos (starEach es X.env)).any (·.1)=false:=by rfl):PE X (.Call (.Name x p) (e::es) [] pos) (tCB r t):=by
 intro pins s σ H Q I h
 refine wpAny_Call_Name_kw (lV I hg hm hv ?_ hn hdb)
 exact PyProof.Rows.callWith_type1 (thn (ha pos pins s σ H _ I h) fun us s1 ⟨vs,H1,I1,r1,q1⟩=>hc pins s1 σ H1 vs us Q I1 r1 q1) he hpl
end
end L2
namespace HT
open PySem PyProof.Rows
section
open PySem.SeqAt
open PySem.AutoSeq1 (wpAny_loadPart')
open PySem.MeetsSeq PySem.MeetsSeq2 PySem.MeetsSeq3
end
section
variable {prog:Program} {w:World} {A:Around} {E:Value->Shared->Prop} {s:Shared}
theorem cat_tup {t b:Addr} {vs ws:List Value} {Q:Value->Shared->Prop} (ht:IsTup s.heap t vs.toArray) (hb:IsTup s.heap b ws.toArray) (hv:vs≠[])
  (h1:ws=[]->Q (.ref t) s) (h2:ws≠[]->Q (.ref s.heap.objs.size) { s with heap:=s.heap.push { cls:=.type "tuple", data:=.seq (vs++ws).toArray } })
  (hsz:vs.length+ws.length<=sizeLine):wpAny (model prog w) A (binaryOp .Add (.ref t) (.ref b)) Q E s:=by
 obtain ⟨⟨cls,dd,data,sl⟩,ho,hc,n,hd⟩:=id ht
 obtain ⟨⟨cls2,dd2,data2,sl2⟩,ho2,hc2,n2,hd2⟩:=id hb
 simp only at hc hd hc2 hd2
 subst hc hd hc2 hd2
 have e:vs.toArray++ws.toArray=(vs++ws).toArray:=by simp
 by_cases hw:ws=[]
 ·exact concat_meets ⟨_,ho,rfl⟩ ⟨_,ho2,rfl⟩ noFill_tuple_add seq_tuple_add PySem.F.slot_tuple_add PySem.F.entry_tuple_add (PySem.F.args_tuple_add_2 _ _)
   (tuple_addW1 t b vs.toArray ws.toArray n n2 dd dd2 sl sl2 (by simpa using hv) (by simp [hw])) ⟨ho,ho2,h1 hw⟩
 ·refine concat_meets ⟨_,ho,rfl⟩ ⟨_,ho2,rfl⟩ noFill_tuple_add seq_tuple_add PySem.F.slot_tuple_add PySem.F.entry_tuple_add (PySem.F.args_tuple_add_2 _ _)
   (tuple_addW2 t b vs.toArray ws.toArray n n2 dd dd2 sl sl2 (by simpa using hv) (by simpa using hw) (by rw [List.size_toArray,List.size_toArray];exact hsz)) ⟨ho,ho2,?_⟩
  rw [e]
  exact h2 hw
def sIx (n d:Nat):Option Int->Nat
 | none=>d
 | some v=>if v < 0 then (v+(n:Int)).toNat else min v.toNat n
end
end HT
namespace L2
open PySem PySem.Spec PyProof.Rows
abbrev TO:=St->Hp->(Option Int->Hp->Prop)->Prop
def PO (X:Cx) (e:Option Expr) (t:TO):Prop:=
 ∀ (pins:List (Addr×Obj)) (s:Shared) (σ:St) (H:Hp) (Q:Option Int->Hp->Prop),Inv X pins σ H s->t σ H Q->
  wpAny (model X.prog X.w) X.A (evalPart e X.env) (fun u s'=>∃ o H',Inv X pins σ H' s'/\IsPart u o/\Q o H') X.xe s
abbrev zLr:TO:=fun _ H Q=>Q none H
abbrev zOF (t:TE):TO:=fun σ H Q=>t σ H fun x H1=>∃ i,x=.int i/\Q (some i) H1
section
variable {X:Cx} {e:Expr} {te:TE} {lo hi:Option Expr} {tl th:TO} {pos p2:Pos}
theorem zLf:PO X none zLr:=by
 intro pins s σ H Q I h
 rw [evalPart_none]
 exact wpAny_pure ⟨none,H,I,.none,h⟩
theorem zKT (h:PE X e te):PO X (some e) (zOF te):=by
 intro pins s σ H Q I hw
 rw [evalPart_some]
 refine thn (h pins s σ H _ I hw) fun u s1 ⟨x,H1,I1,r1,q1⟩=>?_
 obtain ⟨i,rfl,q⟩:=q1
 obtain ⟨t,rfl⟩:=r1
 exact ⟨some i,H1,I1,.int i t,q⟩
def SlR (X:Cx) (r:V->Option Int->Option Int->Hp->VK->Prop):Prop:=
 ∀ (pins:List (Addr×Obj)) (s:Shared) (σ:St) (H:Hp) (x:V) (v vl vu:Value) (lo hi:Option Int) (sl:Addr) (Q:VK),Inv X pins σ H s->cP x v->s.heap.IsSliceOf sl vl vu .none->IsPart vl lo->IsPart vu hi->r x lo hi H Q->
  ∃ T id,typeLookup (.type T) "__getitem__" = pure (some (.builtin id))/\s.TypeIs v T/\wpAny (model X.prog X.w) X.A (getItem v (.ref sl)) (EP X pins σ Q) X.xe s
abbrev tSl (r:V->Option Int->Option Int->Hp->VK->Prop) (te:TE) (tl th:TO):TE:=fun σ H Q=>te σ H fun x H1=>tl σ H1 fun l H2=>th σ H2 fun u H3=>r x l u H3 Q
theorem zIg {r:V->Option Int->Option Int->Hp->VK->Prop} (hr:SlR X r) (he:PE X e te) (hl:PO X lo tl) (hu:PO X hi th):PE X (.Subscript e (.Slice lo hi none p2) pos) (tSl r te tl th):=by
 intro pins s σ H Q I h
 refine Subscript_ (thn (he pins s σ H _ I h) fun v s1 ⟨x,H1,I1,r1,q1⟩=>?_)
 refine wpAny_Slice (thn (hl pins s1 σ H1 _ I1 q1) fun vl s2 ⟨l,H2,I2,pl,q2⟩=>thn (hu pins s2 σ H2 _ I2 q2) fun vu s3 ⟨u,H3,I3,pu,q3⟩=>?_)
 rw [evalPart_none]
 refine wpAny_pure ?_
 have I4:Inv X pins σ H3 { s3 with heap:=s3.heap.push { cls:=.type "slice", data:=.fields #[vl,vu,.none] } }:=I3.kept (t':=s3.toks) fun b ob q=>Heap.get?_push_of_some _ q
 obtain ⟨T,id,hT,ht,hg⟩:=hr pins { s3 with heap:=s3.heap.push { cls:=.type "slice", data:=.fields #[vl,vu,.none] } } σ H3 x v vl vu l u s3.heap.objs.size Q I4 r1 (Heap.IsSliceOf.new ..) pl pu q3
 show wpAny (model X.prog X.w) X.A (subscriptTail e (.Slice lo hi none p2) v (.ref s3.heap.objs.size)) (EP X pins σ Q) X.xe { s3 with heap:=s3.heap.push { cls:=.type "slice", data:=.fields #[vl,vu,.none] } }
 exact tail_any (ops:=[.ref s3.heap.objs.size,v]) ht hT hg (by with_unfolding_all rfl)
def zLz (xs:List V) (lo hi:Option Int):List V:=(xs.drop (HT.sIx xs.length 0 lo)).take (HT.sIx xs.length xs.length hi - HT.sIx xs.length 0 lo)
theorem zBJ (xs:List V) (lo hi:Option Int):(zLz xs lo hi).length<=xs.length:=by
 unfold zLz
 rw [List.length_take,List.length_drop]
 omega
def zMl (K:PySem.W.Frag):R2:=fun x y H Q=>∃ a b xs ys,x=.ref a/\y=.ref b/\SqT K H a xs/\SqT K H b ys/\xs≠[]/\xs.length+ys.length<=sizeLine/\
 (ys=[]->Q (.ref a) H)/\(ys≠[]->∀ p,H p=none->Q (.ref p) (upd H p (.tup (xs++ys))))
theorem cX.nil_iff {xs:List V} {us:List Value} (r:cX xs us):us=[] ↔ xs=[]:=by
 cases r with
 | nil=>simp
 | cons _ _=>simp
theorem zKI:OpR X (binaryOp .Add) (zMl X.K):=by
 intro pins s σ H x y v u Q I rx ry h
 obtain ⟨a,b,xs,ys,rfl,rfl,ha,hb,hx,hz,q1,q2⟩:=h
 cases rx
 cases ry
 obtain ⟨its,r1,p1,_⟩:=I.tuple ha
 obtain ⟨its2,r2,p2,_⟩:=I.tuple hb
 refine HT.cat_tup p1 p2 (fun z=>hx (r1.nil_iff.mp z)) (fun z=>⟨.ref a,H,I,rfl,q1 (r2.nil_iff.mp z)⟩) (fun z=>?_) (by rw [<-r1.length,<-r2.length];exact hz)
 refine ⟨.ref s.heap.objs.size,_,I.laid (t':=s.toks) (o:=.tup (xs++ys)) (fun b ob q=>Heap.get?_push_of_some _ q) (Nat.le_refl _) ?_,rfl,q2 (fun w=>z (r2.nil_iff.mpr w)) _ (I.hok.fresh (Nat.le_refl _))⟩
 exact ⟨by rw [List.length_append];exact hz,_,r1.append r2,IsTup.new _ _⟩
end
end L2
namespace L2
open PySem PySem.Spec PyProof.Rows
def ixN (n:Nat) (i:Int):Option Nat:=if 0<=i then (if i < n then some i.toNat else none) else if -(n:Int)<=i then some (i+n).toNat else none
def atI {α:Type} (xs:List α) (i:Int):Option α:=(ixN xs.length i).bind fun j=>xs[j]?
theorem zGz {n:Nat} {i:Int} {j:Nat} (h:ixN n i=some j):seqIndex? i n=some j/\j < n/\-(n:Int)<=i/\i < n:=by
 unfold ixN at h
 by_cases h0:0<=i
 ·rw [if_pos h0] at h
  by_cases h1:i < n
  ·rw [if_pos h1] at h
   have e:i.toNat=j:=Option.some.inj h
   exact ⟨by rw [seqIndex_of h0 h1,e],by omega,by omega,h1⟩
  ·rw [if_neg h1] at h;cases h
 ·rw [if_neg h0] at h
  by_cases h1:-(n:Int)<=i
  ·rw [if_pos h1] at h
   have e:(i+n).toNat=j:=Option.some.inj h
   exact ⟨by rw [seqIndex_neg (by omega) h1,e],by omega,h1,by omega⟩
  ·rw [if_neg h1] at h;cases h
theorem zFM {α:Type} {xs:List α} {i:Int} {v:α} (h:atI xs i=some v):∃ j,seqIndex? i xs.length=some j/\xs[j]?=some v/\j < xs.length/\-(xs.length:Int)<=i/\i < xs.length:=by
 unfold atI at h
 cases e:ixN xs.length i with
 | none=>rw [e] at h;cases h
 | some j=>
  rw [e] at h
  obtain ⟨h1,h2,h3,h4⟩:=zGz e
  exact ⟨j,h1,h,h2,h3,h4⟩
theorem zBC {α:Type} {xs:List α} {j:Nat} {v:α} (h:xs[j]?=some v):atI xs (j:Int)=some v:=by
 have hj:j < xs.length:=(List.getElem?_eq_some_iff.mp h).1
 have e:ixN xs.length (j:Int)=some j:=by
  unfold ixN
  rw [if_pos (by omega),if_pos (by omega)];simp
 unfold atI;rw [e];exact h
def zBU (b:Expr):Prop:=∀ o i,subscripted b false o i=operate [o,i] (getItem o i)
def IxR (X:Cx) (r:R2):Prop:=
 ∀ (value slice:Expr) (pins:List (Addr×Obj)) (s:Shared) (σ:St) (H:Hp) (x y:V) (v u:Value) (Q:VK),Inv X pins σ H s->cP x v->cP y u->r x y H Q->
  subscripted slice false v u=operate [v,u] (getItem v u)->wpAny (model X.prog X.w) X.A (subscriptTail value slice v u) (EP X pins σ Q) X.xe s
def MtR (X:Cx) (id:String) (r:V->List V->Hp->VK->Prop):Prop:=
 ∀ (pins:List (Addr×Obj)) (s:Shared) (σ:St) (H:Hp) (x:V) (xs:List V) (v:Value) (us:List Value) (Q:VK),Inv X pins σ H s->cP x v->cX xs us->r x xs H Q->
  wpAny (model X.prog X.w) X.A (call (.builtin id) (v::us)) (EP X pins σ Q) X.xe s
section
variable {X:Cx} {a b:Expr} {ta tb:TE} {pos:Pos}
theorem IxR.or {r r':R2} (h:IxR X r) (h':IxR X r'):IxR X (fun x y H Q=>r x y H Q∨r' x y H Q):=by
 intro value slice pins s σ H x y v u Q I rx ry q hs
 rcases q with q | q
 ·exact h value slice pins s σ H x y v u Q I rx ry q hs
 ·exact h' value slice pins s σ H x y v u Q I rx ry q hs
theorem zEd {r:R2} (hr:IxR X r) (ha:PE X a ta) (hb:PE X b tb) (hs:zBU b):PE X (.Subscript a b pos) (tOp r ta tb):=by
 intro pins s σ H Q I h
 exact Subscript_ (zOr ha hb I h fun v u s2 x y H2 I2 rx ry q=>hr a b pins s2 σ H2 x y v u Q I2 rx ry q (hs _ _))
def zNU (K:PySem.W.Frag):R2:=fun x y H Q=>∃ p xs i v,x=.ref p/\y=.int i/\SqL K H p xs/\atI xs i=some v/\Q v H
def zNW (K:PySem.W.Frag):R2:=fun x y H Q=>∃ p xs i v,x=.ref p/\y=.int i/\SqT K H p xs/\atI xs i=some v/\Q v H
theorem zKM:IxR X (zNU X.K):=by
 intro value slice pins s σ H x y v u Q I rx ry h hs
 obtain ⟨p,xs,i,z,rfl,rfl,hq,he,q⟩:=h
 cases rx
 obtain ⟨t,rfl⟩:=ry
 obtain ⟨its,r,pl,hz⟩:=I.list hq
 obtain ⟨j,h1,h2,h3,h4,h5⟩:=zFM he
 obtain ⟨w,ew,rw'⟩:=r.get h2
 have hl:=r.length
 have hn:=zDn
 have fin:EP X pins σ Q w s:=⟨z,H,I,rw',q⟩
 by_cases h0:0<=i
 ·have hj:i.toNat=j:=by
   rw [seqIndex_of h0 h5] at h1
   exact Option.some.inj h1
  exact item_listR pl.isList h0 (by omega) (by rw [hj];simpa using ew) fin hs
 ·have hj:(i+(its.toArray.size:Int)).toNat=j:=by
   rw [seqIndex_neg (by omega) h4] at h1
   rw [List.size_toArray,<-hl]
   exact Option.some.inj h1
  exact subscriptTail_builtinR (x:=w) pl.isList.typeIs slot_list_getitem.lookup
   (wpAny_getItem_list_neg (Q:=fun r s'=>r=w/\EP X pins σ Q r s') pl.isList (by omega) (by rw [List.size_toArray]<;>omega) (by omega) (by rw [hj];simpa using ew) ⟨rfl,fin⟩) hs
theorem zNs:IxR X (zNW X.K):=by
 intro value slice pins s σ H x y v u Q I rx ry h hs
 obtain ⟨p,xs,i,z,rfl,rfl,hq,he,q⟩:=h
 cases rx
 obtain ⟨t,rfl⟩:=ry
 obtain ⟨its,r,pl,hz⟩:=I.tuple hq
 obtain ⟨j,h1,h2,h3,h4,h5⟩:=zFM he
 obtain ⟨w,ew,rw'⟩:=r.get h2
 have hl:=r.length
 have hn:=zDn
 have fin:EP X pins σ Q w s:=⟨z,H,I,rw',q⟩
 exact subscriptTail_builtinR (x:=w) pl.typeIs slot_tuple_getitem.lookup
  (getItem_tuple (j:=j) (Q:=fun r s'=>r=w/\EP X pins σ Q r s') pl (by omega) (by omega) (by rw [List.size_toArray,<-hl];exact h1) (by simpa using ew) ⟨rfl,fin⟩) hs
theorem zDK (its:List Value) (n j:Nat) (u:Value):Obj.mapSeq (·.setIfInBounds j u) { cls:=.type "list", data:=.seq its.toArray n }={ cls:=.type "list", data:=.seq (its.set j u).toArray n }:=by
 simp [Obj.mapSeq]
theorem Inv.lst {pins:List (Addr×Obj)} {σ:St} {H:Hp} {s:Shared} {p:Addr} {xs:List V} (I:Inv X pins σ H s) (h:H p=some (.lst xs)):
  ∃ (its:List Value) (n:Nat),cX xs its/\s.heap.get? p=some { cls:=.type "list", data:=.seq its.toArray n }/\xs.length<=sizeLine:=by
 obtain ⟨z,its,n,r,e⟩:=I.hok p _ h
 exact ⟨its,n,r,e,z⟩
theorem Inv.lstUpd {pins:List (Addr×Obj)} {σ:St} {H:Hp} {s:Shared} {p:Addr} {xs ys:List V} {its its':List Value} {n n':Nat} {f:Obj->Obj} (I:Inv X pins σ H s) (h:H p=some (.lst xs))
  (ho:s.heap.get? p=some { cls:=.type "list", data:=.seq its.toArray n }) (hf:f { cls:=.type "list", data:=.seq its.toArray n }={ cls:=.type "list", data:=.seq its'.toArray n' }) (r:cX ys its') (hz:ys.length<=sizeLine) (t:Nat):
  Inv X pins σ (upd H p (.lst ys)) { s with heap:=s.heap.update p f,toks:=t }:=by
 have e:(s.heap.update p f).get? p=some { cls:=.type "list", data:=.seq its'.toArray n' }:=by
  rw [Heap.get?_update_self f ho (by rw [hf]<;>rfl),hf]
 refine I.write (x:=p) (e:=p) (by rw [h];trivial) (.inl rfl) (fun b u hb q=>(Heap.get?_update_other _ _ (Ne.symm hb)).trans q) ⟨_,e⟩ ?_
 exact ⟨hz,its',n',r,e⟩
def zNY:V->V->V->Hp->(Hp->Prop)->Prop:=fun o i v H Q=>∃ p xs k j,o=.ref p/\i=.int k/\H p=some (.lst xs)/\ixN xs.length k=some j/\Q (upd H p (.lst (xs.set j v)))
theorem zIx:zPu X zNY:=by
 intro pins s σ H o i v ov iv u Q I ro ri rv h
 obtain ⟨p,xs,k,j,rfl,rfl,hp,hj,q⟩:=h
 cases ro
 obtain ⟨t,rfl⟩:=ri
 obtain ⟨its,n,r,ho,hz⟩:=I.lst hp
 obtain ⟨h1,h2,h3,h4⟩:=zGz hj
 have hl:=r.length
 have hn:=zDn
 have I':Inv X pins σ (upd H p (.lst (xs.set j v))) { s with heap:=s.heap.update p (Obj.mapSeq (·.setIfInBounds j u)) }:=
  I.lstUpd hp ho (zDK its n j u) (r.set rv j) (by rw [List.length_set];exact hz) s.toks
 by_cases h0:0<=k
 ·have hk:k.toNat=j:=by
   rw [seqIndex_of h0 h4] at h1
   exact Option.some.inj h1
  exact PySem.W.ki_setAt ho h0 (by omega) (by rw [List.size_toArray,<-hl];exact h4) (by rw [hk];exact ⟨_,I',q⟩)
 ·have hk:(k+(its.toArray.size:Int)).toNat=j:=by
   rw [seqIndex_neg (by omega) h3] at h1
   rw [List.size_toArray,<-hl]
   exact Option.some.inj h1
  exact PySem.W.ki_setBack ho (by omega) (by rw [List.size_toArray,<-hl];exact h3) (by omega) (by rw [hk];exact ⟨_,I',q⟩)
theorem zK (lo hi:Option Int) (n:Nat):(sliceBounds lo hi none n).1=((HT.sIx n 0 lo:Nat):Int)/\(sliceBounds lo hi none n).2.1=((HT.sIx n n hi:Nat):Int)/\(sliceBounds lo hi none n).2.2=1:=by
 refine ⟨?_,?_,rfl⟩
 ·cases lo with
  | none=>simp [sliceBounds,HT.sIx]
  | some i=>
   simp only [sliceBounds,HT.sIx,Option.getD_none,show (1:Int) > 0 by decide,if_true]
   by_cases h:i < 0
   ·simp only [h,if_true]<;>omega
   ·simp only [h,if_false]<;>omega
 ·cases hi with
  | none=>simp [sliceBounds,HT.sIx]
  | some i=>
   simp only [sliceBounds,HT.sIx,Option.getD_none,show (1:Int) > 0 by decide,if_true]
   by_cases h:i < 0
   ·simp only [h,if_true]<;>omega
   ·simp only [h,if_false]<;>omega
theorem zB (its:List Value) (lo hi:Option Int):slicePick its.toArray lo hi none=((its.drop (HT.sIx its.length 0 lo)).take (HT.sIx its.length its.length hi - HT.sIx its.length 0 lo)).toArray:=by
 obtain ⟨h1,h2,h3⟩:=zK lo hi its.toArray.size
 unfold slicePick
 rw [h1,h2,h3]
 simp only [sliceRange_one,pick_run,List.size_toArray]<;>rfl
def zPK (K:PySem.W.Frag):V->Option Int->Option Int->Hp->VK->Prop:=fun x lo hi H Q=>∃ a xs,x=.ref a/\SqL K H a xs/\∀ p,H p=none->Q (.ref p) (upd H p (.lst (zLz xs lo hi)))
theorem zLi:SlR X (zPK X.K):=by
 intro pins s σ H x v vl vu lo hi sl Q I rx hs pl pu h
 obtain ⟨a,xs,rfl,hx,q⟩:=h
 cases rx
 obtain ⟨its,r,ht,hz⟩:=I.list hx
 have hlen:=r.length
 refine ⟨"list", _,slot_list_getitem.lookup,ht.isList.typeIs,?_⟩
 refine wpAny_getItem_list_slice ht.isList hs pl pu .none (by simp) ?_ (by rw [List.size_toArray]<;>omega)
 rw [zB,<-hlen]
 refine ⟨.ref s.heap.objs.size,_,I.laid (t':=s.toks) (o:=.lst (zLz xs lo hi)) (fun b ob q=>Heap.get?_push_of_some _ q) (Nat.le_refl _) ?_,rfl,q _ (I.hok.fresh (Nat.le_refl _))⟩
 exact ⟨Nat.le_trans (zBJ xs lo hi) hz,_,0,(r.drop (HT.sIx xs.length 0 lo)).take (HT.sIx xs.length xs.length hi - HT.sIx xs.length 0 lo),Heap.get?_push_size _ rfl⟩
theorem aN:vT X (.builtin "len") (fun xs H Q=>∃ p ys,xs=[.ref p]/\(SqL X.K H p ys∨SqT X.K H p ys)/\Q (.int ys.length) H):=by
 intro pins s σ H xs us Q I r h
 obtain ⟨p,ys,rfl,hq,q⟩:=h
 obtain ⟨u,rfl,rx⟩:=zDH r
 cases rx
 have hn:=zDn
 rcases hq with hq | hq
 ·obtain ⟨its,r',pl,hz⟩:=I.list hq
  have hlen:=r'.length
  exact Calls.call_len_list pl.isList (by simp only [List.size_toArray]<;>omega) ⟨.int ys.length,H,I.tok _,⟨s.toks+1,by rw [List.size_toArray,hlen]⟩,q⟩
 ·obtain ⟨its,r',pl,hz⟩:=I.tuple hq
  have hlen:=r'.length
  exact len_tuple pl (by simp only [List.size_toArray]<;>omega) ⟨.int ys.length,H,I.tok _,⟨s.toks+1,by rw [List.size_toArray,hlen]⟩,q⟩
theorem zAG:vT X (.type "list") (fun xs H Q=>∃ p ys,xs=[.ref p]/\(SqL X.K H p ys∨SqT X.K H p ys)/\∀ l,H l=none->Q (.ref l) (upd H l (.lst ys))):=by
 intro pins s σ H xs us Q I r h
 obtain ⟨p,ys,rfl,hq,q⟩:=h
 obtain ⟨u,rfl,rx⟩:=zDH r
 cases rx
 have fin:∀ (its:List Value),cX ys its->ys.length<=sizeLine->∀ (h':Heap) (c':Nat),(∀ b o',s.heap.get? b=some o'->h'.get? b=some o')->
   h'.get? s.heap.objs.size=some { cls:=.type "list", dict:=none,data:=.seq its.toArray c',slots:=#[] }->EP X pins σ Q (.ref s.heap.objs.size) { s with heap:=h' }:=fun its r' hz h' c' kp e=>
  ⟨.ref s.heap.objs.size,_,I.laid (t':=s.toks) kp (Nat.le_refl _) (show kG X.prog X.w _ h' _ (.lst ys) from ⟨hz,its,c',r',e⟩),rfl,q _ (I.hok.fresh (Nat.le_refl _))⟩
 rcases hq with hq | hq
 ·obtain ⟨its,r',pl,hz⟩:=I.list hq
  have hlen:=r'.length
  obtain ⟨o,ho,hc,n,hd⟩:=pl.isList
  exact call_list_seq p (.inl rfl) ho hc hd (fun h' c' kp e=>fin its r' hz h' c' kp e) (by simp only [List.size_toArray]<;>omega)
 ·obtain ⟨its,r',pl,hz⟩:=I.tuple hq
  have hlen:=r'.length
  obtain ⟨o,ho,hc,n,hd⟩:=pl
  exact call_list_seq p (.inr rfl) ho hc hd (fun h' c' kp e=>fin its r' hz h' c' kp e) (by simp only [List.size_toArray]<;>omega)
theorem jQ:vT X (.type "tuple") (fun xs H Q=>∃ p ys,xs=[.ref p]/\((SqL X.K H p ys/\∀ l,H l=none->Q (.ref l) (upd H l (.tup ys)))∨(SqT X.K H p ys/\Q (.ref p) H))):=by
 intro pins s σ H xs us Q I r h
 obtain ⟨p,ys,rfl,h⟩:=h
 obtain ⟨u,rfl,rx⟩:=zDH r
 cases rx
 rcases h with ⟨hq,q⟩ | ⟨hq,q⟩
 ·obtain ⟨its,r',pl,hz⟩:=I.list hq
  have hlen:=r'.length
  refine call_tuple_list pl.isList (fun h' kp=>?_) (by simp only [List.size_toArray]<;>omega)
  have I1:Inv X pins σ H { s with heap:=h' }:=I.kept (t':=s.toks) kp
  have I2:Inv X pins σ (upd H h'.objs.size (.tup ys)) { s with heap:=h'.push { cls:=.type "tuple", data:=.seq its.toArray } }:=
   I1.laid (t':=s.toks) (fun b o e=>Heap.get?_push_of_some _ e) (Nat.le_refl _) (show kG X.prog X.w _ _ _ (.tup ys) from ⟨hz,its,r',IsTup.new _ _⟩)
  exact ⟨.ref h'.objs.size,_,I2,rfl,q _ (I1.hok.fresh (Nat.le_refl _))⟩
 ·obtain ⟨its,r',pl,hz⟩:=I.tuple hq
  exact call_tuple_same pl ⟨.ref p,H,I,rfl,q⟩
def tyV (K:PySem.W.Frag) (T:String) (x:V) (H:Hp):Prop:=match x with
 | .str _=>T = "str"
 | .int _=>T = "int"
 | .ref p=>(T = "list" /\ ∃ xs,SqL K H p xs)∨(T = "tuple" /\ ∃ o,K.lookup p=some o/\o.cls=.type "tuple" /\ o.dict=none)∨
   (T = "dict" /\ ((∃ kvs,H p=some (.dK kvs))∨∃ kvs,H p=some (.dT kvs)))∨(T = "set" /\ ∃ S n,H p=some (.set S n))
 | _=>False
theorem zIK {pins:List (Addr×Obj)} {σ:St} {H:Hp} {s:Shared} {T:String} {x:V} {v:Value} (I:Inv X pins σ H s) (r:cP x v) (ty:tyV X.K T x H):
  s.TypeIs v T/\∀ a,v=.ref a->∃ ob,s.heap.get? a=some ob/\ob.dict=none:=by
 cases x with
 | str z=>
  obtain ⟨t,rfl⟩:=r
  cases (show T = "str" from ty)
  exact ⟨typeIs_str s z t,fun _ e=>nomatch e⟩
 | int i=>
  obtain ⟨t,rfl⟩:=r
  cases (show T = "int" from ty)
  exact ⟨typeIs_int s i t,fun _ e=>nomatch e⟩
 | ref p=>
  cases r
  rcases ty with ⟨rfl,xs,hq⟩ | ⟨rfl,o,hk,hc,hd⟩ | ⟨rfl,hk⟩ | ⟨rfl,S,n,hk⟩
  ·obtain ⟨its,_,pl,_⟩:=I.list hq
   refine ⟨pl.isList.typeIs,fun a e=>?_⟩
   cases e
   obtain ⟨o,n,e,c,hd,_⟩:=pl
   exact ⟨o,e,hd⟩
  ·refine ⟨⟨o,I.kIn p o hk,hc⟩,fun a e=>?_⟩
   cases e
   exact ⟨o,I.kIn _ o hk,hd⟩
  ·have z:∃ o,s.heap.get? p=some o/\o.ExactDict:=by
    rcases hk with ⟨kvs,hk⟩ | ⟨kvs,hk⟩
    ·obtain ⟨_,_,_,_,o,_,_,e,ex,_⟩:=I.hok p _ hk
     exact ⟨o,e,ex⟩
    ·obtain ⟨_,_,_,_,o,_,_,e,ex,_⟩:=I.hok p _ hk
     exact ⟨o,e,ex⟩
   obtain ⟨o,e,ex⟩:=z
   refine ⟨⟨o,e,ex.1⟩,fun a e2=>?_⟩
   cases e2
   exact ⟨o,e,ex.2.1⟩
  ·obtain ⟨o,_,_,_,e,ex,_⟩:=I.hok p _ hk
   refine ⟨⟨o,e,ex.1⟩,fun a e2=>?_⟩
   cases e2
   exact ⟨o,e,ex.2.1⟩
 | _=>exact False.elim ty
abbrev zPA (K:PySem.W.Frag) (T:String) (r:V->List V->Hp->VK->Prop) (to:TE):TE:=fun σ H Q=>to σ H fun x H1=>tyV K T x H1/\r x [] H1 Q
abbrev tBM (K:PySem.W.Frag) (T:String) (r:V->List V->Hp->VK->Prop) (to:TE) (t:TA):TE:=fun σ H Q=>to σ H fun x H1=>tyV K T x H1/\t σ H1 fun xs H2=>r x xs H2 Q
variable {o e:Expr} {es:List Expr} {to:TE} {t:TA} {name:Str} {apos cpos:Pos} {T id:String} {r:V->List V->Hp->VK->Prop}
theorem zLB (pa:PlainAttrs T) (slot:Slot T name id) (hty:typeOf (.builtin id)=pure (.type "method_descriptor")) (hm:MtR X id r) (ho:PE X o to)
  (hbase:attributeBase o name X.env (eval o X.env)=eval o X.env:=by rfl) (hline:(apos.endLine==cpos.line)=true:=by rfl):PE X (.Call (.Attribute o name apos) [] [] cpos) (zPA X.K T r to):=by
 intro pins s σ H Q I h
 refine wpAny_Call_method0_late hbase hline (thn (ho pins s σ H _ I h) fun v s1 ⟨x,H1,I1,r1,ty,q1⟩=>?_)
 obtain ⟨h1,h2⟩:=zIK I1 r1 ty
 exact ⟨T,id,pa,slot,hty,h1,h2,Calls.callWith_builtin rfl (PySem.evalArgs_none (hm pins s1 σ H1 x [] v [] Q I1 r1 .nil q1))⟩
theorem zNg (pa:PlainAttrs T) (slot:Slot T name id) (hty:typeOf (.builtin id)=pure (.type "method_descriptor")) (hm:MtR X id r) (ho:PE X o to) (ha:PA X (e::es) t)
  (hbase:attributeBase o name X.env (eval o X.env)=eval o X.env:=by rfl)
  (hfew:((backTo cpos (starEach (e::es) X.env)).all (fun x=>!x.1) && (backToKw cpos (keywordEach [] X.env)).all (fun x=>x.1.isSome)
   && decide ((e::es).length+([]:List Keyword).length+(if ([]:List Keyword).isEmpty then 0 else 1) < 30))=true:=by rfl)
  (hline:(apos.endLine==cpos.line)=true:=by rfl) (hs:starEach (e::es) X.env=(false,eval e X.env)::starEach es X.env:=by rfl) (hplain:(backTo cpos (starEach es X.env)).any (·.1)=false:=by rfl):
  PE X (.Call (.Attribute o name apos) (e::es) [] cpos) (tBM X.K T r to t):=by
 intro pins s σ H Q I h
 refine wpAny_Call_method_late hbase hfew hline rfl (thn (ho pins s σ H _ I h) fun v s1 ⟨x,H1,I1,r1,ty,q1⟩=>?_)
 obtain ⟨h1,h2⟩:=zIK I1 r1 ty
 refine ⟨T,id,pa,slot,hty,h1,h2,?_⟩
 have hA:=ha cpos pins s1 σ H1 _ I1 q1
 rw [hs] at hA ⊢
 refine Calls.callWith_builtin (by show (false || (backTo cpos (starEach es X.env)).any (·.1))=false;rw [hplain]<;>rfl) (Calls.evalArgs_plain ?_)
 exact thn hA fun us s2 ⟨vs,H2,I2,r2,q2⟩=>hm pins s2 σ H2 x vs v us Q I2 r1 r2 q2
end
end L2
namespace L2
open PySem PySem.Spec PyProof.Rows
def MtM (X:Cx) (id:String) (r:V->List V->Hp->VK->Prop):Prop:=
 ∀ (pins:List (Addr×Obj)) (s:Shared) (σ:St) (H:Hp) (x:V) (xs:List V) (v:Value) (us:List Value) (Q:VK),Inv X pins σ H s->cP x v->cX xs us->r x xs H Q->
  wpAny (model X.prog X.w) X.A (call (.builtin id) (v::us)) (EP X pins σ Q) X.xe s
theorem cX.one:∀ {x:V} {us:List Value},cX [x] us->∃ u,us=[u]/\cP x u
 | _,_,.cons r .nil=>⟨_,rfl,r⟩
theorem cX.zero:∀ {us:List Value},cX [] us->us=[]
 | _,.nil=>rfl
theorem cX.dropLast {xs:List V} {us:List Value} (h:cX xs us):cX xs.dropLast us.dropLast:=by
 induction h with
 | nil=>exact .nil
 | cons r t ih=>
  cases t with
  | nil=>exact .nil
  | cons q t'=>exact .cons r ih
theorem cX.rep {xs:List V} {us:List Value} (h:cX xs us):∀ k:Nat,cX (List.replicate k xs).flatten (List.replicate k us).flatten
 | 0=>.nil
 | k+1=>by
  rw [List.replicate_succ,List.replicate_succ,List.flatten_cons,List.flatten_cons]
  exact cX.append h (cX.rep h k)
theorem zEo {α:Type} (l:List α):l.eraseIdx (l.length - 1)=l.dropLast:=by
 induction l with
 | nil=>rfl
 | cons a r ih=>
  cases r with
  | nil=>rfl
  | cons b r=>
   have e:(a::b::r).length - 1=((b::r).length - 1)+1:=by
    have h1:(a::b::r).length=r.length+2:=rfl
    have h2:(b::r).length=r.length+1:=rfl
    omega
   rw [e,List.eraseIdx_cons_succ,ih]
   all_goals rfl
theorem zAX (its:List Value):∀ (k:Nat) (acc:List Value),
  List.foldl (fun x1 x2=>x1++x2) acc.toArray (List.replicate k its.toArray)=(acc++(List.replicate k its).flatten).toArray
 | 0,acc=>by simp
 | k+1,acc=>by
  have e:acc.toArray++its.toArray=(acc++its).toArray:=by simp
  have e2:(acc++its)++(List.replicate k its).flatten=acc++(List.replicate (k+1) its).flatten:=by
   rw [List.replicate_succ,List.flatten_cons,List.append_assoc]
  rw [<-e2,<-zAX its k (acc++its),<-e,List.replicate_succ,List.foldl_cons]
section
variable {X:Cx} {pins:List (Addr×Obj)} {σ:St} {H:Hp} {s:Shared} {l b:Addr} {xs ys zs:List V}
theorem Inv.lset {its its':List Value} {n:Nat} {f:Array Value->Array Value} {t':Nat} (I:Inv X pins σ H s) (hH:H l=some (.lst xs))
  (e:s.heap.get? l=some { cls:=.type "list", data:=.seq its.toArray n }) (hf:f its.toArray=its'.toArray) (hv:cX ys its') (hz:ys.length<=sizeLine):
  Inv X pins σ (upd H l (.lst ys)) { s with heap:=s.heap.update l (Obj.mapSeq f),toks:=t' }:=by
 have q:=PySem.IsL.update e f
 rw [hf] at q
 refine I.write (x:=l) (e:=l) (by rw [hH];exact trivial) (.inl rfl) (fun b' u hb hu=>(Heap.get?_update_other s.heap (Obj.mapSeq f) (Ne.symm hb)).trans hu) ⟨_,q⟩ ?_
 exact ⟨hz,its',_,hv,q⟩
theorem Inv.lnew {its:List Value} {t':Nat} (I:Inv X pins σ H s) (hv:cX ys its) (hz:ys.length<=sizeLine):
  Inv X pins σ (upd H s.heap.objs.size (.lst ys)) { s with heap:=s.heap.push { cls:=.type "list", data:=.seq its.toArray },toks:=t' }:=
 I.laid (fun _ _ q=>Heap.get?_push_of_some _ q) (Nat.le_refl _) ⟨hz,its,0,hv,Heap.get?_push_size _ rfl⟩
theorem Inv.fresh (I:Inv X pins σ H s):H s.heap.objs.size=none:=I.hok.fresh (Nat.le_refl _)
theorem Inv.lstM (I:Inv X pins σ H s) (hH:H l=some (.lst xs)):xs.length<=sizeLine/\∃ (its:List Value) (n:Nat),cX xs its/\xs.length=its.length/\s.heap.get? l=some { cls:=.type "list", data:=.seq its.toArray n }:=by
 obtain ⟨z,its,n,r,e⟩:=I.hok l _ hH
 exact ⟨z,its,n,r,r.length,e⟩
theorem zHH {n:Nat} (h:n<=sizeLine):Builtin.List.listTooLong n=false:=by
 unfold Builtin.List.listTooLong
 exact decide_eq_false (by omega)
end
section
variable {X:Cx}
def zJO:V->List V->Hp->VK->Prop:=fun x vs H Q=>∃ l xs y,x=.ref l/\vs=[y]/\H l=some (.lst xs)/\xs.length < sizeLine/\Q .non (upd H l (.lst (xs++[y])))
theorem oT:MtM X "list.append" zJO:=by
 intro pins s σ H x vs v us Q I rx rv h
 obtain ⟨l,xs,y,rfl,rfl,hH,hz,q⟩:=h
 cases rx
 obtain ⟨u,rfl,ru⟩:=rv.one
 obtain ⟨z,its,n,r,hl,e⟩:=I.lstM hH
 refine call_meets F.slot_list_append ⟨_,e,rfl⟩ F.entry_list_append (F.args_list_append_2 _ _) (PySem.list_append l its.toArray n u (by rw [List.size_toArray];omega)) ⟨e,?_⟩
 refine ⟨.non,_,I.lset (its':=its++[u]) hH e (by simp) (r.append (.cons ru .nil)) ?_,rfl,q⟩
 rw [List.length_append,List.length_singleton]
 omega
def zPQ:V->List V->Hp->VK->Prop:=fun x vs H Q=>∃ l xs y,x=.ref l/\vs=[]/\H l=some (.lst xs)/\xs[xs.length - 1]?=some y/\Q y (upd H l (.lst xs.dropLast))
theorem zMO:MtM X "list.pop" zPQ:=by
 intro pins s σ H x vs v us Q I rx rv h
 obtain ⟨l,xs,y,rfl,rfl,hH,hy,q⟩:=h
 cases rx
 have hus:=rv.zero
 subst hus
 obtain ⟨z,its,n,r,hl,e⟩:=I.lstM hH
 obtain ⟨u,hu,ru⟩:=r.get hy
 have hy':its.toArray[its.toArray.size - 1]?=some u:=by
  show its.toArray[its.length - 1]?=some u
  rw [<-Array.getElem?_toList,<-hl]
  exact hu
 refine call_meets F.slot_list_pop ⟨_,e,rfl⟩ F.entry_list_pop (F.args_list_pop_1 _) (MeetsSeq.list_pop_last l its.toArray n u hy' (by rw [List.size_toArray];omega)) ⟨e,?_⟩
 refine ⟨y,_,I.lset (its':=its.dropLast) hH e ?_ r.dropLast ?_,ru,q⟩
 ·show its.toArray.eraseIdxIfInBounds (its.toArray.size - 1)=its.dropLast.toArray
  rw [List.size_toArray,List.eraseIdxIfInBounds_toArray,zEo]
 ·rw [List.length_dropLast]
  omega
def zPY:R2:=fun x y H Q=>∃ l k xs,x=.ref l/\y=.int k/\H l=some (.lst xs)/\-(2^63)<=k/\k < 2^63/\xs.length * k.toNat<=sizeLine/\
 ∀ p,H p=none->Q (.ref p) (upd H p (.lst (List.replicate k.toNat xs).flatten))
theorem zLa {α:Type} (xs:List α) (k:Nat):(List.replicate k xs).flatten.length=k * xs.length:=by
 induction k with
 | zero=>simp
 | succ k ih=>rw [List.replicate_succ,List.flatten_cons,List.length_append,ih,Nat.succ_mul,Nat.add_comm]
theorem zNn:OpR X (binaryOp .Mult) zPY:=by
 intro pins s σ H x y v u Q I rx ry h
 obtain ⟨l,k,xs,rfl,rfl,hH,h1,h2,hz,q⟩:=h
 cases rx
 obtain ⟨t,rfl⟩:=ry
 obtain ⟨z,its,n,r,hl,e⟩:=I.lstM hH
 have hlen:its.toArray.size * k.toNat<=sizeLine:=by rw [List.size_toArray,<-hl];exact hz
 have hcap:¬ its.toArray.size * k.toNat > (2^63 - 1) / 8:=by
  have:(sizeLine:Nat)<=(2^63 - 1) / 8:=by decide
  omega
 have hfit:¬ (!Builtin.List.listFitsIndex k)=true:=by
  rw [fitsIndex_both h1 h2]
  exact Bool.false_ne_true
 have hlong:¬ Builtin.List.listTooLong (its.toArray.size * k.toNat)=true:=by
  rw [zHH hlen]
  exact Bool.false_ne_true
 have hnew:List.foldl (fun x1 x2=>x1++x2) #[] (List.replicate (if its.toArray.isEmpty=true then 0 else k.toNat) its.toArray)=(List.replicate k.toNat its).flatten.toArray:=by
  have f0:∀ m:Nat,List.foldl (fun x1 x2=>x1++x2) #[] (List.replicate m its.toArray)=(List.replicate m its).flatten.toArray:=fun m=>by
   have:=zAX its m []
   rw [List.nil_append] at this
   exact this
  rw [f0]
  cases its with
  | nil=>simp
  | cons a r'=>rw [if_neg (by simp)]
 refine wpAny_binaryOp_repeat_ref (T := "list") (U := "int") (by decide) ⟨_,e,rfl⟩ (fun s'=>typeIs_int s' k t) noFill_list_mul F.fills_int_mul F.slot_int_rmul repeat_list F.slot_int_index.lookup
  (call_meets F.slot_int_rmul (typeIs_int s k t) F.entry_int_rmul (F.args_int_rmul_2 _ _) (int___rmul___int_list k t l its.toArray n)
   ⟨e,rfl,⟨_,e,rfl⟩,call_meets F.slot_list_mul ⟨_,e,rfl⟩ F.entry_list_mul (F.args_list_mul_2 _ _) (AutoListH.list___mul___list_int_3 l its.toArray n k t hfit hcap hlong) ⟨e,?_⟩⟩)
 rw [hnew]
 exact ⟨.ref _,_,I.lnew (t':=s.toks) (r.rep k.toNat) (by rw [zLa,Nat.mul_comm];exact hz),rfl,q _ I.fresh⟩
end
section
variable {prog:Program} {w:World} {A:Around} {E:Value->Shared->Prop} {s:Shared}
set_option maxRecDepth 100000 in
end
section
variable {X:Cx}
end
end L2
namespace Att
open PySem PySem.W PySem.Calls PyProof.Rows
theorem rV {P:Params} {h:Heap}:∀ (ns:List Int) (vs:List Value),WellAll P h vs (ns.map WData.int)->IntsAre vs ns:=by
 intro ns
 induction ns with
 | nil=>
  intro vs w
  rw [List.map_nil] at w
  cases w
  exact .nil
 | cons n ns ih=>
  intro vs w
  rw [List.map_cons] at w
  cases w with
  | cons a b=>
   cases a
   exact .cons _ _ (ih _ b)
theorem script_of {l:OpenLaw} {n:Nat} (hn:l.most=some n) {P:Params} {h:Heap} {args:List WData} {vals:List Value}
  (hpre:l.row.toRowW.claim.pre args=true) (hwl:WellAll P h vals args):
  ∃ a vs ns,vals=[Value.ref a]/\args=[WData.list (ns.map WData.int)]/\h.get? a=some { cls:=.type "list", data:=.seq vs.toArray }/\IntsAre vs ns/\ns.length<=n:=by
 have hsh:WShape.hasAll [] args [.list .int]=true:=(pre_splitW hpre).1
 have hc:l.pre.holds [] { args:=args }=true:=(pre_splitW hpre).2
 obtain ⟨d,r,rfl,h1,h2⟩:=hasAllW_cons hsh
 obtain rfl:=hasAllW_nil h2
 obtain ⟨xs,rfl,h3⟩:=hasW_list h1
 obtain ⟨ns,rfl⟩:=items_int h3
 have hlen:ns.length<=n:=by
  unfold OpenLaw.pre at hc
  have h4:(WTm.not (.lt (.lit (.int (n:Int))) (.len (.arg 0)))).holds [] { args:=[.list (ns.map .int)] }=true:=by
   have h4:=(holds_andW hc).1
   rw [hn] at h4
   exact h4
  have h5:=condW_of h4 (w_not (w_lt w_lit (w_len_list (w_arg rfl))))
  rw [List.length_map] at h5
  refine Nat.le_of_not_lt fun q=>?_
  have q':(n:Int) < ((ns.length:Nat):Int):=by omega
  first
   | (rw [decide_eq_true q'] at h5;exact absurd h5 (by decide))
   | (simp at h5;omega)
 cases hwl with
 | cons w1 w2=>
  cases w2
  cases w1 with
  | list ho hall=>exact ⟨_,_,ns,rfl,rfl,ho,rV ns _ hall,hlen⟩
theorem post_true (l:OpenLaw) (args:List WData):l.row.toRowW.claim.post args (.bool true) args=true:=
 postW_of (r:=l.row.toRowW) (X:=(true==true))
  (show WShape.has [] (.bool true) .bool=true by first | rfl | decide | simp [WShape.has,WShape.arms,WShape.armsAll])
  (show (WTm.eq .res (.lit (.bool true))).value [] { args:=args,res:=some (.bool true),after:=args }=some (.bool (true==true)) from w_eq_bool (w_res rfl) w_lit) rfl
section
variable {prog:Program} {w:World} {A:Around} {E:Value->Shared->Prop} {s:Shared} {K:Frag}
end
end Att
namespace L2
open PySem PySem.Spec PyProof.Rows
theorem zAM:∀ {vs:List Value} {ns:List Int},IntsAre vs ns->cX (ns.map V.int) vs
 | _,_,.nil=>.nil
 | _,_,.cons n t h=>.cons ⟨t,rfl⟩ (zAM h)
def zPP (H:Hp):Prop:=∀ b,H b=none∨∃ o xs,H b=some (.frz o (.lst xs))
end L2
namespace L2
open PySem PySem.Spec PyProof.Rows
end L2
namespace L2
open PySem PySem.Spec PyProof.Rows
def iV (s:Stmt):Arguments:=match s with
 | .FunctionDef _ a _ _ _ _ _ _ _ _=>a
 | _=>{ posonlyargs:=[],args:=[],vararg:=none,kwonlyargs:=[],kw_defaults:=[],kwarg:=none,defaults:=[] }
def dR (s:Stmt):List Stmt:=match s with
 | .FunctionDef _ _ b _ _ _ _ _ _ _=>b
 | _=>[]
def aE (s:Stmt):Scope:=match s with
 | .FunctionDef _ _ _ _ _ _ sc _ _ _=>sc
 | _=>{ kind:=.function,names:=[],isGenerator:=false,isCoroutine:=false }
structure Fun (K:PySem.W.Frag) (x qual:Str) (st:Stmt) (f:Addr) (fd:FuncData):Prop where
 ex:∃ (oc:Value) (od:Option Addr) (kV doc pm:Value) (an:Option Addr) (cdv ct:Value) (osl:Array (Option Value)),
  fd=PySem.W.fnOf x qual (iV st) (dR st) (aE st) .none kV doc pm an cdv ct/\K.lookup f=some ⟨oc,od,.func fd,osl⟩/\PySem.W.codeIn K cdv qual=true
 kp:PySem.W.keepIn K (.ref f)=true
section
variable {P:Program} {w:World} {K:PySem.W.Frag} {mg:Str->Option Value} {base:Heap}
theorem Fun.binds {x qual:Str} {st:Stmt} {f:Addr} {fd:FuncData} {ps:List Str} (F:Fun K x qual st f fd)
  (h:∀ (kV doc pm:Value) (an:Option Addr) (cdv ct:Value) (us:List Value),us.length=ps.length->bindArgs (PySem.W.fnOf x qual (iV st) (dR st) (aE st) .none kV doc pm an cdv ct) ⟨us,[]⟩=pure (ps.zip us)):xO K fd ps []:=by
 obtain ⟨oc,od,kV,doc,pm,an,cdv,ct,osl,rfl,lk,hcd⟩:=F.ex
 exact .all (h kV doc pm an cdv ct)
theorem wB {x qual:Str} {st:Stmt} {f:Addr} {oc:Value} {od an:Option Addr} {osl:Array (Option Value)} {kV doc pm cdv ct:Value} (l:K.lookup f=some ⟨oc,od,.func (PySem.W.fnOf x qual (iV st) (dR st) (aE st) .none kV doc pm an cdv ct),osl⟩)
  (c:PySem.W.codeIn K cdv qual=true) (k:PySem.W.keepIn K (.ref f)=true):Fun K x qual st f (PySem.W.fnOf x qual (iV st) (dR st) (aE st) .none kV doc pm an cdv ct):=⟨⟨oc,od,kV,doc,pm,an,cdv,ct,osl,rfl,l,c⟩,k⟩
end
section
variable {X:Cx}
theorem pv (i:Nat) {x:Str} {pos:Pos} (hN:X.N[i]?=some x:=by rfl) (hv:Vis X.env.scope x:=by first | exact Or.inl rfl | exact Or.inr (Or.inl rfl) | exact Or.inr (Or.inr rfl)) (hd:(x==("__debug__" : Str))=false:=by decide)
  (hcd:(x==("__classdict__" : Str))=false:=by decide):PE X (.Name x pos) (uH i):=sB hN hv hd hcd
end
def Same (H H':Hp):Prop:=∀ b o,H b=some o->H' b=some o
theorem Same.refl (H:Hp):Same H H:=fun _ _ h=>h
theorem Same.trans {H H1 H2:Hp} (a:Same H H1) (b:Same H1 H2):Same H H2:=fun c o h=>b c o (a c o h)
end L2
set_option maxHeartbeats 4000000
set_option exponentiation.threshold 20000
namespace L2
open PySem PySem.Spec PyProof.Rows
section
variable {X:Cx}
variable {tg:Expr}
end
end L2
namespace L2
open PySem PySem.Spec PyProof.Rows
end L2
namespace L2
open PySem PySem.Spec PyProof.Rows
section
variable {P:Program} {w:World} {H H':Hp} {h:Heap} {a:Addr} {o:HO}
theorem kG.here (x:kG P w H h a o):∃ ob,h.get? a=some ob:=by
 cases o with
 | lst xs=>obtain ⟨_,_,_,_,e⟩:=x;exact ⟨_,e⟩
 | tup xs=>obtain ⟨_,_,_,e⟩:=x;obtain ⟨ob,e,_⟩:=e;exact ⟨_,e⟩
 | dK kvs=>obtain ⟨_,_,_,_,e⟩:=x;obtain ⟨ob,_,_,e,_⟩:=e;exact ⟨_,e⟩
 | dT kvs=>obtain ⟨_,_,_,_,ob,_,_,e,_⟩:=x;exact ⟨_,e⟩
 | set S n=>obtain ⟨ob,_,_,_,e,_⟩:=x;exact ⟨_,e⟩
 | ins C dx fs=>obtain ⟨_,_,_,e,_⟩:=x;exact ⟨_,e⟩
 | own y=>exact x
 | xd fs=>obtain ⟨_,⟨ob,_,_,e,_⟩,_⟩:=x;exact ⟨_,e⟩
 | met f y=>exact ⟨_,x⟩
 | rng lo hi=>obtain ⟨_,_,_,e⟩:=x;exact ⟨_,e⟩
 | frz ob u=>exact ⟨_,x.1⟩
 | tbl ps=>exact ⟨_,x⟩
 | ext φ=>exact x.2.1
theorem HOk.none_of (ok:HOk P w H h) (e:h.get? a=none):H a=none:=by
 cases q:H a with
 | none=>rfl
 | some o=>
  obtain ⟨ob,z⟩:=(ok a o q).here
  rw [e] at z;cases z
end
structure Fly (P:Program) (w:World) (l:List Env) (H H':Hp) (s:Shared) (ea:Addr) (cls:Value) (s':Shared):Prop where
 os:s'.os=s.os
 bare:AllBare s'.gens
 un:Un (frs l) [] H H' s.heap s'.heap
 hok:HOk P w H' s'.heap
 ne:H' ea=none
 new:s.heap.get? ea=none
 fly:∃ B a0,Heap.FlyingW B l ea cls a0 s'.heap/\(∀ b o,s'.heap.get? b=some o->((∃ o',s.heap.get? b=some o')∨H' b≠none)->b∉frs l->B.get? b=some o)
def CX1 (P:Program) (w:World):CXT:=fun outer H s E e s'=>∃ ea cls H',e=.ref ea/\Fly P w outer H H' s ea cls s'/\E cls none H'
structure Own (X:Cx):Prop where
 stk:X.stack=X.env::X.outer
 fr:X.env.frame=some X.env.locals
 ex:X.ex=[]
section
variable {X:Cx} {pins:List (Addr×Obj)} {σ:St} {H H':Hp} {s s':Shared} {ea:Addr} {cls:Value}
theorem zDi (O:Own X):frs X.stack=X.env.locals::X.fs:=by
 rw [O.stk]
 show List.filterMap _ (_::_)=_
 rw [List.filterMap_cons,O.fr]
 rfl
theorem Inv.there0 (I:Inv X pins σ H s) (O:Own X) {b:Addr} {o:Obj} (e:X.s₀.heap.get? b=some o):∃ o',s.heap.get? b=some o':=I.base.there b o e (by rw [O.ex];simp)
theorem Inv.ne0 (I:Inv X pins σ H s) {b:Addr} {o:Obj} (e:X.s₀.heap.get? b=some o):b≠X.env.locals:=Nat.ne_of_lt (Nat.lt_of_lt_of_le (Heap.lt_size e) I.ok.above)
theorem Fly.leave (I:Inv X pins σ H s) (O:Own X) (F:Fly X.prog X.w X.stack H H' s ea cls s') {h':Heap} {B:Heap} {a0:Value}
  (hf:Heap.FlyingW B X.stack ea cls a0 s'.heap) (cov:∀ b o,s'.heap.get? b=some o->((∃ o',s.heap.get? b=some o')∨H' b≠none)->b∉frs X.stack->B.get? b=some o)
  (hf':Heap.FlyingW B X.outer ea cls a0 h') (up:s'.heap.UpToSlots h'):Fly X.prog X.w X.outer X.H₀ H' X.s₀ ea cls { s' with heap:=h' }:=by
 have fst:frs X.stack=X.env.locals::X.fs:=zDi O
 have nin:∀ {b:Addr},b≠X.env.locals->b∉X.fs->b∉frs X.stack:=fun h1 h2=>by rw [fst];simp [h1,h2]
 have trk:∀ {b:Addr},H' b≠none->b∉frs X.stack:=fun {b} hb hm=>by
  have h1:=I.stkFree b hm
  obtain ⟨_,o,ho,_⟩:=I.stack.mem hm
  exact hb (F.un.free b o ho h1 (by simp))
 have keepB:∀ {b:Addr} {o:Obj},s'.heap.get? b=some o->((∃ o',s.heap.get? b=some o')∨H' b≠none)->b∉frs X.stack->h'.get? b=some o:=fun e1 e2 e3=>hf'.1 _ _ (cov _ _ e1 e2 e3)
 have slotOf:∀ {b:Addr} {o:Obj},b∈frs X.stack->s'.heap.get? b=some o->∃ sl,h'.get? b=some { o with slots:=sl }:=fun {b o} hm e=>by
  obtain ⟨_,o',ho',hn⟩:=hf.2.2.1.mem hm
  rw [e] at ho';cases ho'
  exact up b o e hn
 refine ⟨F.os.trans I.os,F.bare,⟨?_,?_,?_,?_,?_,?_,?_⟩,?_,F.ne,?_,⟨B,a0,hf',?_⟩⟩
 ·intro b o e n hb hx
  have e1:=I.base.keep b o e n hb (by rw [O.ex];simp)
  have n1:=I.base.free b o e n (by rw [O.ex];simp)
  have hs:b∉frs X.stack:=nin (I.ne0 e) hb
  exact keepB (F.un.keep b o e1 n1 hs (by simp)) (.inl ⟨o,e1⟩) hs
 ·intro b o e n hb hx
  obtain ⟨sl,e1⟩:=I.base.slot b o e n hb (by rw [O.ex];simp)
  have n1:=I.base.free b o e n (by rw [O.ex];simp)
  have hs:b∈frs X.stack:=by rw [fst];exact List.mem_cons_of_mem _ hb
  obtain ⟨sl2,e2⟩:=F.un.slot b _ e1 n1 hs (by simp)
  obtain ⟨sl3,e3⟩:=slotOf hs e2
  exact ⟨sl3,e3⟩
 ·intro b o e n hx
  obtain ⟨o1,e1⟩:=I.there0 O e
  exact F.un.free b o1 e1 (I.base.free b o e n (by rw [O.ex];simp)) (by simp)
 ·intro b o e hx
  obtain ⟨o1,e1⟩:=I.there0 O e
  obtain ⟨o2,e2⟩:=F.un.there b o1 e1 (by simp)
  by_cases hs:b∈frs X.stack
  ·obtain ⟨sl,e3⟩:=slotOf hs e2
   exact ⟨_,e3⟩
  ·exact ⟨o2,keepB e2 (.inl ⟨o1,e1⟩) hs⟩
 ·exact fun b xs e=>F.un.tups b xs (I.base.tups b xs e)
 ·exact fun b o u e=>F.un.frzs b o u (I.base.frzs b o u e)
 ·intro b ps e
  obtain ⟨m1,e1⟩:=I.base.tbls b ps e
  obtain ⟨m2,e2⟩:=F.un.tbls b _ e1
  exact ⟨m1++m2,by rw [e2,Array.append_assoc]⟩
 ·intro a o e
  refine (F.hok a o e).stay (fun b u hb z=>?_) (fun b z=>z) (fun b xs z=>z)
  have hb':H' b≠none:=by
   rcases hb with rfl | hb
   ·rw [e];simp
   ·rw [hb];simp
  exact keepB z (.inr hb') (trk hb')
 ·show X.s₀.heap.get? ea=none
  cases q:X.s₀.heap.get? ea with
  | none=>rfl
  | some o=>
   obtain ⟨o1,e1⟩:=I.there0 O q
   rw [F.new] at e1;cases e1
 ·intro b o e c hb
  have c':(∃ o',s.heap.get? b=some o')∨H' b≠none:=by
   rcases c with ⟨o',c⟩ | c
   ·exact .inl (I.there0 O c)
   ·exact .inr c
  have hs:b∉frs X.stack:=by
   rcases c with ⟨o',c⟩ | c
   ·exact nin (I.ne0 c) hb
   ·exact trk c
  have ex:∃ o2,s'.heap.get? b=some o2:=by
   rcases c' with ⟨o',c1⟩ | c1
   ·exact F.un.there b o' c1 (by simp)
   ·cases q:H' b with
    | none=>exact absurd q c1
    | some u=>exact (F.hok b u q).here
  obtain ⟨o2,e2⟩:=ex
  have z:=keepB e2 c' hs
  have z':h'.get? b=some o:=e
  rw [z] at z';cases z'
  exact cov b o e2 c' hs
end
end L2
namespace L2
open PySem PySem.Spec PyProof.Rows
section
variable {X:Cx} {pins:List (Addr×Obj)} {σ:St} {H H':Hp} {s s':Shared} {ea:Addr} {cls:Value}
theorem zLH (l:List Env):∀ env∈l,∀ b,env.frame=some b->b∈frs l:=fun env he b hb=>List.mem_filterMap.mpr ⟨env,he,hb⟩
theorem Fly.made (I:Inv X pins σ H s) (O:Own X) {vs:List Value} (hx:Heap.MadeExcOf s.heap s'.heap ea cls vs) (hos:s'.os=s.os) (hg:AllBare s'.gens) {h':Heap} {t:Addr}
  (hf':Heap.FlyingW (PySem.W.hideAll s.heap (frs X.stack)) X.outer ea cls (.ref t) h') (up:s'.heap.UpToSlots h'):Fly X.prog X.w X.outer X.H₀ H X.s₀ ea cls { s' with heap:=h' }:=by
 have fst:frs X.stack=X.env.locals::X.fs:=zDi O
 have nin:∀ {b:Addr},b≠X.env.locals->b∉X.fs->b∉frs X.stack:=fun h1 h2=>by rw [fst];simp [h1,h2]
 have trk:∀ {b:Addr},H b≠none->b∉frs X.stack:=fun {b} hb hm=>hb (I.stkFree b hm)
 have keepB:∀ {b:Addr} {o:Obj},s.heap.get? b=some o->b∉frs X.stack->h'.get? b=some o:=fun e1 e3=>hf'.1 _ _ (PySem.W.hideAll_get _ e1 e3)
 have slotOf:∀ {b:Addr} {o:Obj},b∈frs X.stack->s.heap.get? b=some o->∃ sl,h'.get? b=some { o with slots:=sl }:=fun {b o} hm e=>by
  obtain ⟨_,o',ho',hn⟩:=I.stack.mem hm
  rw [e] at ho';cases ho'
  exact up b o (hx.keeps b o e) hn
 refine ⟨hos.trans I.os,hg,⟨?_,?_,?_,?_,?_,?_,?_⟩,?_,?_,?_,⟨_,_,hf',?_⟩⟩
 ·intro b o e n hb hx'
  exact keepB (I.base.keep b o e n hb (by rw [O.ex];simp)) (nin (I.ne0 e) hb)
 ·intro b o e n hb hx'
  obtain ⟨sl,e1⟩:=I.base.slot b o e n hb (by rw [O.ex];simp)
  have hs:b∈frs X.stack:=by rw [fst];exact List.mem_cons_of_mem _ hb
  obtain ⟨sl3,e3⟩:=slotOf hs e1
  exact ⟨sl3,e3⟩
 ·exact fun b o e n hx'=>I.base.free b o e n (by rw [O.ex];simp)
 ·intro b o e hx'
  obtain ⟨o1,e1⟩:=I.there0 O e
  by_cases hs:b∈frs X.stack
  ·obtain ⟨sl,e3⟩:=slotOf hs e1
   exact ⟨_,e3⟩
  ·exact ⟨o1,keepB e1 hs⟩
 ·exact fun b xs e=>I.base.tups b xs e
 ·exact fun b o u e=>I.base.frzs b o u e
 ·exact fun b ps e=>I.base.tbls b ps e
 ·intro a o e
  refine (I.hok a o e).stay (fun b u hb z=>?_) (fun b z=>z) (fun b xs z=>z)
  have hb':H b≠none:=by
   rcases hb with rfl | hb
   ·rw [e];simp
   ·rw [hb];simp
  exact keepB z (trk hb')
 ·exact I.hok.none_of hx.new
 ·show X.s₀.heap.get? ea=none
  cases q:X.s₀.heap.get? ea with
  | none=>rfl
  | some o=>
   obtain ⟨o1,e1⟩:=I.there0 O q
   rw [hx.new] at e1;cases e1
 ·intro b o e c hb
  have hs:b∉frs X.stack:=by
   rcases c with ⟨o',c⟩ | c
   ·exact nin (I.ne0 c) hb
   ·exact trk c
  have ex:∃ o2,s.heap.get? b=some o2:=by
   rcases c with ⟨o',c1⟩ | c1
   ·exact I.there0 O c1
   ·cases q:H b with
    | none=>exact absurd q c1
    | some u=>exact (I.hok b u q).here
  obtain ⟨o2,e2⟩:=ex
  have z:=keepB e2 hs
  have z':h'.get? b=some o:=e
  rw [z] at z';cases z'
  exact PySem.W.hideAll_get _ e2 hs
end
section
variable {CX:CXT} {P:Program} {w:World} {K:PySem.W.Frag} {mg:Str->Option Value} {base:Heap} {N:List Str} {qual:Str} {scope:Scope} {f:Addr} {cd:Value} {A:Around} {outer:List Env} {s₀:Shared} {H₀:Hp} {E:XK}
theorem zIQ:Own (zEh CX P w K mg base N qual scope f cd A outer s₀ H₀ E):=⟨rfl,rfl,rfl⟩
theorem zOH {E':XK} (h:∀ c H',E' c none H'->E c none H'):zDf (CX1 P w) (zEh (CX1 P w) P w K mg base N qual scope f cd A outer s₀ H₀ E) E':=by
 intro pins σ H s e s' I hc
 obtain ⟨ea,cls,H',rfl,F,q⟩:=hc
 obtain ⟨B,a0,hf,cov⟩:=F.fly
 have O:Own (zEh (CX1 P w) P w K mg base N qual scope f cd A outer s₀ H₀ E):=zIQ
 exact wpAny_leaves_onW (I.ok.frames.trans (congrArg some O.stk)) O.fr hf fun h' hf' up=>⟨ea,cls,H',rfl,F.leave I O hf cov hf' up,h _ _ q⟩
theorem zBp {pins:List (Addr×Obj)} {σ:St} {H:Hp} {s s':Shared} {ea:Addr} {cls:Value} {vs:List Value} (I:Inv (zEh (CX1 P w) P w K mg base N qual scope f cd A outer s₀ H₀ E) pins σ H s)
  (hx:Heap.MadeExcOf s.heap s'.heap ea cls vs) (hos:s'.os=s.os) (hg:AllBare s'.gens) (q:E cls none H):(zEh (CX1 P w) P w K mg base N qual scope f cd A outer s₀ H₀ E).xe (.ref ea) s':=by
 have O:Own (zEh (CX1 P w) P w K mg base N qual scope f cd A outer s₀ H₀ E):=zIQ
 have hst:=O.stk
 exact wpAny_leaves_madeW (base:=PySem.W.hideAll s.heap (frs (zEh (CX1 P w) P w K mg base N qual scope f cd A outer s₀ H₀ E).stack)) (h:=s.heap) (I.ok.frames.trans (congrArg some O.stk)) O.fr (fun b o z=>PySem.W.of_hideAll _ z)
  (PySem.W.funFrames_hide (I.stack) (zLH _)) hx fun h' t hf' _ _ up=>⟨ea,cls,H,rfl,Fly.made I O hx hos hg hf' up,q⟩
end
structure Err (K:PySem.W.Frag) (mg:Str->Option Value) (x:Str) (C:Addr):Prop where
 own:∀ h:Heap,K.In h->∃ bm newId B initId,OwnCls x C bm newId mg h/\ExcBaseFacts B newId initId bm
end L2
namespace L3
open PySem
inductive D where
 | non | bl (b:Bool) | int (i:Int) | str (x:Str) | tup (ds:List D) | lst (ds:List D)
inductive Res (α:Type) where
 | ok (a:α) | err (c:Str) | no
def Res.bind {α β:Type} (x:Res α) (f:α->Res β):Res β:=match x with
 | .ok a=>f a
 | .err c=>.err c
 | .no=>.no
inductive Sl where
 | un | val (d:D) | own (ds:List D) | exc (c:Str) | tab (T:List (Str×Str))
abbrev Rho:=List Sl
inductive Rt where
 | v (d:D) | f (ds:List D)
def Rt.d:Rt->D
 | .v d=>d
 | .f ds=>.lst ds
inductive Fl where
 | nx (ρ:Rho) | ret (r:Rt) | brk (ρ:Rho) | ctn (ρ:Rho)
abbrev Ev:=Rho->Res D
abbrev Fv:=Rho->Res (List D)
abbrev Tv:=Rho->Res Bool
abbrev Sv:=Rho->Res Fl
abbrev Mir:=List D->Res Rt
mutual
def eqD:D->D->Bool
 | .non,.non=>true
 | .bl a,.bl b=>a==b
 | .bl a,.int b=>(if a then 1 else 0)==b
 | .int a,.bl b=>a==(if b then 1 else 0)
 | .int a,.int b=>a==b
 | .str a,.str b=>a==b
 | .tup ds,.tup es=>zFA ds es
 | .lst ds,.lst es=>zFA ds es
 | _,_=>false
def zFA:List D->List D->Bool
 | [],[]=>true
 | d::ds,e::es=>eqD d e && zFA ds es
 | _,_=>false
end
mutual
def dep:D->Nat
 | .tup ds=>depS ds+1
 | .lst ds=>depS ds+1
 | _=>0
def depS:List D->Nat
 | []=>0
 | d::ds=>max (dep d) (depS ds)
end
mutual
def noL:D->Bool
 | .tup ds=>noLs ds
 | .lst _=>false
 | _=>true
def noLs:List D->Bool
 | []=>true
 | d::ds=>noL d && noLs ds
end
theorem pB:∀ {ds:List D} {d:D},d∈ds->dep d<=depS ds
 | e::ds,d,h=>by
  rw [depS]
  rcases List.mem_cons.mp h with rfl | h
  ·exact Nat.le_max_left ..
  ·exact Nat.le_trans (pB h) (Nat.le_max_right ..)
theorem zBH {n:Nat}:∀ {ds:List D},(∀ d∈ds,dep d<=n)->depS ds<=n
 | [],_=>Nat.zero_le _
 | d::ds,h=>by
  rw [depS]
  exact Nat.max_le.mpr ⟨h d List.mem_cons_self,zBH fun e he=>h e (List.mem_cons_of_mem _ he)⟩
theorem zIm:∀ {ds:List D},noLs ds=true ↔ ∀ d∈ds,noL d=true
 | []=>by simp [noLs]
 | d::ds=>by rw [noLs,Bool.and_eq_true,zIm];simp
theorem lR:∀ (ds es:List D),zFA ds es=((List.range (min ds.length es.length)).all (fun j=>eqD (ds.getD j .non) (es.getD j .non)) && ds.length==es.length)
 | [],[]=>rfl
 | [],e::es=>by simp [zFA]
 | d::ds,[]=>by simp [zFA]
 | d::ds,e::es=>by
  rw [zFA,lR ds es]
  have h:min (d::ds).length (e::es).length=min ds.length es.length+1:=by simp only [List.length_cons];omega
  rw [h,List.range_succ_eq_map]
  simp [List.all_map,Function.comp_def,Bool.and_assoc]
mutual
theorem oU:∀ d:D,eqD d d=true
 | .non=>rfl
 | .bl b=>by simp [eqD]
 | .int i=>by simp [eqD]
 | .str x=>by simp [eqD]
 | .tup ds=>by rw [eqD];exact rZ ds
 | .lst ds=>by rw [eqD];exact rZ ds
theorem rZ:∀ ds:List D,zFA ds ds=true
 | []=>rfl
 | d::ds=>by rw [zFA,oU d,rZ ds];rfl
end
def nb (i:Int):Nat:=i.natAbs.log2+1
theorem zLe (i:Int):i.natAbs < 2^nb i:=Nat.lt_log2_self
theorem zOp {i:Int} {m:Nat} (h:i.natAbs < 2^m) (hm:0 < m):nb i<=m:=by
 unfold nb
 by_cases h0:i.natAbs=0
 ·rw [h0];exact hm
 ·exact (Nat.log2_lt h0).mpr h
def iP (i j:Int):Bool:=(decide (-(2^64) < i) && decide (i < 2^64)) || (decide (-(2^64) < j) && decide (j < 2^64)) || decide (nb i+nb j<=134217728)
def kF (j:Int):Bool:=decide (j≠0) && decide (nb j<=9000)
def sX (i j:Int):Bool:=decide (0<=j) && decide ((nb i:Int) * j<=2^27)
abbrev Op2:=D->D->Res D
def zHk:Op2
 | .int i,.int j=>.ok (.int (i+j))
 | .tup a,.tup b=>if a.length+b.length<=16777216 then .ok (.tup (a++b)) else .no
 | _,_=>.no
def zCb:Op2
 | .int i,.int j=>.ok (.int (i+j))
 | _,_=>.no
def sD:Op2
 | .int i,.int j=>.ok (.int (i - j))
 | _,_=>.no
def oV:Op2
 | .int i,.int j=>if iP i j=true then .ok (.int (i * j)) else .no
 | _,_=>.no
def zHs:Op2
 | .int i,.int j=>if kF j=true then .ok (.int (i.fdiv j)) else .no
 | _,_=>.no
def zEs:Op2
 | .int i,.int j=>if j≠0 then .ok (.int (i.fmod j)) else .no
 | _,_=>.no
def zLA:Op2
 | .int i,.int j=>if sX i j=true then .ok (.int (i^j.toNat)) else .no
 | _,_=>.no
def oEq (x y:D):Res D:=if dep x<=50 then .ok (.bl (eqD x y)) else .no
def oNe (x y:D):Res D:=if dep x<=50 then .ok (.bl (!eqD x y)) else .no
def oLt:Op2
 | .int i,.int j=>.ok (.bl (decide (i < j)))
 | _,_=>.no
def oLe:Op2
 | .int i,.int j=>.ok (.bl (decide (i<=j)))
 | _,_=>.no
def oGt:Op2
 | .int i,.int j=>.ok (.bl (decide (j < i)))
 | _,_=>.no
def oGe:Op2
 | .int i,.int j=>.ok (.bl (decide (j<=i)))
 | _,_=>.no
def atD (ds:List D) (i:Int):Option D:=if 0<=i then ds[i.toNat]? else if 0<=(ds.length:Int)+i then ds[((ds.length:Int)+i).toNat]? else none
def ofO {α:Type}:Option α->Res α
 | some a=>.ok a
 | none=>.no
def oIx:Op2
 | .tup ds,.int i=>ofO (atD ds i)
 | .lst ds,.int i=>ofO (atD ds i)
 | _,_=>.no
def oIn:Op2
 | d,.lst ds=>if depS ds<=50 then .ok (.bl (ds.any fun e=>eqD e d)) else .no
 | d,.tup ds=>if depS ds<=50 then .ok (.bl (ds.any fun e=>eqD e d)) else .no
 | _,_=>.no
def sA:Op2
 | d,.lst ds=>if depS ds<=50 then .ok (.bl (!(ds.any fun e=>eqD e d))) else .no
 | d,.tup ds=>if depS ds<=50 then .ok (.bl (!(ds.any fun e=>eqD e d))) else .no
 | _,_=>.no
def zHo:D->Res D
 | .int i=>.ok (.int (-i))
 | _=>.no
def zPU:D->Res D
 | .bl b=>.ok (.bl (!b))
 | _=>.no
def aF (i:Nat) (ρ:Rho):Res D:=match ρ[i]? with
 | some (.val d)=>.ok d
 | _=>.no
def eC (d:D) (_ρ:Rho):Res D:=.ok d
def eOp (o:Op2) (a b:Ev) (ρ:Rho):Res D:=(a ρ).bind fun x=>(b ρ).bind fun y=>o x y
def eUn (o:D->Res D) (a:Ev) (ρ:Rho):Res D:=(a ρ).bind o
def zNN (a b:Ev) (ρ:Rho):Res D:=(a ρ).bind fun x=>match x with
 | .bl c=>if c=true then b ρ else .ok (.bl false)
 | _=>.no
def eOr (a b:Ev) (ρ:Rho):Res D:=(a ρ).bind fun x=>match x with
 | .bl c=>if c=true then .ok (.bl true) else b ρ
 | _=>.no
def eIf (t:Tv) (a b:Ev) (ρ:Rho):Res D:=(t ρ).bind fun c=>if c=true then a ρ else b ρ
def aNil (_ρ:Rho):Res (List D):=.ok []
def aB (e:Ev) (r:Fv) (ρ:Rho):Res (List D):=(e ρ).bind fun d=>(r ρ).bind fun ds=>.ok (d::ds)
def rK (a:Fv) (ρ:Rho):Res D:=(a ρ).bind fun ds=>if ds.length<=16777216 then .ok (.tup ds) else .no
def aP (m:Mir) (a:Fv) (ρ:Rho):Res D:=(a ρ).bind fun ds=>(m ds).bind fun r=>.ok r.d
def kP:List D->Res D
 | [.lst ds]=>.ok (.int ds.length)
 | [.tup ds]=>.ok (.int ds.length)
 | _=>.no
def zJx:List D->Res D
 | [.int i]=>.ok (.int (if i < 0 then -i else i))
 | _=>.no
def zQc:List D->Res D
 | [.int i,.int j]=>.ok (.int (if j > i then j else i))
 | _=>.no
def zPJ:List D->Res D
 | [.int i,.int j]=>.ok (.int (if j < i then j else i))
 | _=>.no
def zIX:List D->Res D
 | [.lst ds]=>.ok (.tup ds)
 | [.tup ds]=>.ok (.tup ds)
 | _=>.no
def eB (b:List D->Res D) (a:Fv) (ρ:Rho):Res D:=(a ρ).bind b
def tyN:D->String
 | .non => "NoneType" | .bl _ => "bool" | .int _ => "int" | .str _ => "str" | .tup _ => "tuple" | .lst _ => "list"
def isT (T:String) (d:D):Bool:=tyN d==T || (T == "int" && tyN d == "bool")
def zJn (T:String) (a:Ev) (ρ:Rho):Res D:=(a ρ).bind fun d=>.ok (.bl (isT T d))
def isNon:D->Bool
 | .non=>true
 | _=>false
def Sl.frz:Sl->Sl
 | .own ds=>.val (.lst ds)
 | s=>s
def zNX (e:Ev) (ρ:Rho):Res D:=(e (ρ.map Sl.frz)).bind fun d=>if noL d=true then .ok d else .no
def vH (a:Fv) (ρ:Rho):Res (List D):=(a ρ).bind fun ds=>if ds.length<=16777216 then .ok ds else .no
def fQ (m:Mir) (a:Fv) (ρ:Rho):Res (List D):=(a ρ).bind fun ds=>(m ds).bind fun r=>match r with
 | .f ds=>.ok ds
 | .v _=>.no
def zJH (a:Fv) (ρ:Rho):Res (List D):=(a ρ).bind fun ds=>match ds with
 | [.lst ds]=>.ok ds
 | [.tup ds]=>.ok ds
 | _=>.no
def zOB (a b:Ev) (ρ:Rho):Res (List D):=(a ρ).bind fun x=>(b ρ).bind fun y=>match x,y with
 | .lst ds,.lst es=>if ds.length+es.length<=16777216 then .ok (ds++es) else .no
 | _,_=>.no
def eF (f:Fv) (ρ:Rho):Res D:=(f ρ).bind fun ds=>.ok (.lst ds)
def cut (n:Nat) (i:Option Int) (d:Nat):Nat:=match i with
 | none=>d
 | some i=>if 0<=i then min i.toNat n else ((n:Int)+i).toNat
def jW (ds:List D) (lo hi:Option Int):List D:=(ds.drop (cut ds.length lo 0)).take (cut ds.length hi ds.length - cut ds.length lo 0)
abbrev Ov:=Rho->Res (Option Int)
def oN (_ρ:Rho):Res (Option Int):=.ok none
def oS (e:Ev) (ρ:Rho):Res (Option Int):=(e ρ).bind fun d=>match d with
 | .int i=>.ok (some i)
 | _=>.no
def fSl (a:Ev) (lo hi:Ov) (ρ:Rho):Res (List D):=(a ρ).bind fun x=>(lo ρ).bind fun l=>(hi ρ).bind fun h=>match x with
 | .lst ds=>.ok (jW ds l h)
 | _=>.no
def zQa (a:Ev) (lo hi:Ov) (ρ:Rho):Res D:=(a ρ).bind fun x=>(lo ρ).bind fun l=>(hi ρ).bind fun h=>match x with
 | .tup ds=>if (jW ds l h).length < ds.length then .ok (.tup (jW ds l h)) else .no
 | _=>.no
def dQ (e:Ev) (ρ:Rho):Res Bool:=(e ρ).bind fun d=>match d with
 | .bl b=>.ok b
 | _=>.no
def tFrzB (t:Tv) (ρ:Rho):Res Bool:=t (ρ.map Sl.frz)
def mW (t:Tv) (ρ:Rho):Res Bool:=(t ρ).bind fun b=>.ok (!b)
def zDP (t u:Tv) (ρ:Rho):Res Bool:=(t ρ).bind fun b=>if b=true then u ρ else .ok false
def zDb (t u:Tv) (ρ:Rho):Res Bool:=(t ρ).bind fun b=>if b=true then .ok true else u ρ
def sNext (ρ:Rho):Res Fl:=.ok (.nx ρ)
def aY (a b:Sv) (ρ:Rho):Res Fl:=(a ρ).bind fun f=>match f with
 | .nx ρ'=>b ρ'
 | f=>.ok f
def sIf (t:Tv) (a b:Sv) (ρ:Rho):Res Fl:=(t ρ).bind fun c=>if c=true then a ρ else b ρ
def dP (i:Nat) (e:Ev) (ρ:Rho):Res Fl:=(e ρ).bind fun d=>.ok (.nx (ρ.set i (.val d)))
def zEq (i:Nat) (f:Fv) (ρ:Rho):Res Fl:=(f ρ).bind fun ds=>.ok (.nx (ρ.set i (.own ds)))
def zAE (e:Ev) (ρ:Rho):Res Fl:=(e ρ).bind fun _=>.ok (.nx ρ)
def gP (e:Ev) (ρ:Rho):Res Fl:=(e (ρ.map Sl.frz)).bind fun d=>.ok (.ret (.v d))
def jO (f:Fv) (ρ:Rho):Res Fl:=(f (ρ.map Sl.frz)).bind fun ds=>.ok (.ret (.f ds))
def gT (i:Nat) (ρ:Rho):Res Fl:=match ρ[i]? with
 | some (.own ds)=>.ok (.ret (.f ds))
 | _=>.no
def sRetN (_ρ:Rho):Res Fl:=.ok (.ret (.v .non))
def kD (c:Str) (a:Fv) (ρ:Rho):Res Fl:=(a ρ).bind fun ds=>if ds.length<=16777216 then .err c else .no
def sNo (_ρ:Rho):Res Fl:=.no
def zEr (i:Nat) (e:Ev) (ρ:Rho):Res Fl:=match ρ[i]? with
 | some (.own ds)=>(e ρ).bind fun d=>if ds.length < 16777216 then .ok (.nx (ρ.set i (.own (ds++[d])))) else .no
 | _=>.no
def zNP (i:Nat) (k e:Ev) (ρ:Rho):Res Fl:=(e ρ).bind fun d=>match ρ[i]? with
 | some (.own ds)=>(k ρ).bind fun j=>match j with
  | .int j=>if 0<=j/\j < ds.length then .ok (.nx (ρ.set i (.own (ds.set j.toNat d)))) else if -(ds.length:Int)<=j/\j < 0 then .ok (.nx (ρ.set i (.own (ds.set (j+ds.length).toNat d)))) else .no
  | _=>.no
 | _=>.no
def zMA (i:Nat) (ρ:Rho):Res Fl:=match ρ[i]? with
 | some (.own ds)=>if ds.length=0 then .no else .ok (.nx (ρ.set i (.own ds.dropLast)))
 | _=>.no
def zIR (i:Nat) (o:Op2) (e:Ev) (ρ:Rho):Res Fl:=match ρ[i]? with
 | some (.val x)=>(e ρ).bind fun y=>(o x y).bind fun d=>.ok (.nx (ρ.set i (.val d)))
 | _=>.no
def sFrz (s:Sv) (ρ:Rho):Res Fl:=s (ρ.map Sl.frz)
def frzAt (i:Nat) (ρ:Rho):Rho:=match ρ[i]? with
 | some (.own ds)=>ρ.set i (.val (.lst ds))
 | _=>ρ
def sFrzAt (i:Nat) (s:Sv) (ρ:Rho):Res Fl:=s (frzAt i ρ)
def noErr {α:Type}:Res α->Res α
 | .err _=>.no
 | r=>r
abbrev Gv:=D->Rho->Res Rho
def gName (i:Nat) (d:D) (ρ:Rho):Res Rho:=.ok (ρ.set i (.val d))
def zIn (gs:List D->Rho->Res Rho) (d:D) (ρ:Rho):Res Rho:=match d with
 | .tup ds=>gs ds ρ
 | _=>.no
def zIb (ds:List D) (ρ:Rho):Res Rho:=match ds with
 | []=>.ok ρ
 | _=>.no
def qR (g:Gv) (r:List D->Rho->Res Rho) (ds:List D) (ρ:Rho):Res Rho:=match ds with
 | d::ds=>(g d ρ).bind fun ρ'=>r ds ρ'
 | []=>.no
def zPz (g:Gv) (f:Ev) (ρ:Rho):Res Fl:=(f ρ).bind fun d=>(g d ρ).bind fun ρ'=>.ok (.nx ρ')
def eN (g:Gv) (b:Sv):List D->Rho->Res Fl
 | [],ρ=>.ok (.nx ρ)
 | d::ds,ρ=>(g d ρ).bind fun ρ1=>(b ρ1).bind fun f=>match f with
  | .nx ρ2=>eN g b ds ρ2
  | .ctn ρ2=>eN g b ds ρ2
  | .brk ρ2=>.ok (.nx ρ2)
  | .ret r=>.ok (.ret r)
def rJ (it:Fv) (g:Gv) (b:Sv) (ρ:Rho):Res Fl:=(it ρ).bind fun ds=>eN g b ds ρ
def qL (e:Ev) (ρ:Rho):Res (List D):=(e ρ).bind fun d=>match d with
 | .lst ds=>.ok ds
 | .tup ds=>.ok ds
 | _=>.no
def rng (lo:Int) (n:Nat) (c:Int):List D:=(List.range n).map fun (i:Nat)=>D.int (lo+(i:Int) * c)
def zBy (a:Fv) (ρ:Rho):Res (List D):=(a ρ).bind fun ds=>match ds with
 | [.int j]=>if -(2^62)<=j/\j < 2^62 then .ok (rng 0 j.toNat 1) else .no
 | _=>.no
def zBj (a:Fv) (ρ:Rho):Res (List D):=(a ρ).bind fun ds=>match ds with
 | [.int i,.int j]=>if -(2^62)<=i/\i < 2^62/\-(2^62)<=j/\j < 2^62 then .ok (rng i (j - i).toNat 1) else .no
 | _=>.no
def wh (t:Tv) (b:Sv):Nat->Rho->Res Fl
 | 0,_=>.no
 | n+1,ρ=>(t ρ).bind fun c=>if c=true then (b ρ).bind fun f=>match f with
   | .nx ρ2=>wh t b n ρ2
   | .ctn ρ2=>wh t b n ρ2
   | .brk ρ2=>.ok (.nx ρ2)
   | .ret r=>.ok (.ret r)
  else .ok (.nx ρ)
open Classical in
def fA (t:Tv) (b:Sv) (ρ:Rho):Res Fl:=if h:∃ n,wh t b n ρ≠.no then wh t b h.choose ρ else .no
theorem wJ {t:Tv} {b:Sv}:∀ {n:Nat} {ρ:Rho} {k:Nat},wh t b n ρ≠.no->n<=k->wh t b k ρ=wh t b n ρ
 | 0,ρ,k,h,_=>absurd rfl h
 | n+1,ρ,0,h,l=>absurd l (by omega)
 | n+1,ρ,k+1,h,l=>by
  rw [wh,wh]
  rw [wh] at h
  cases ht:t ρ with
  | no=>rfl
  | err c=>rfl
  | ok c=>
   rw [ht] at h
   simp only [Res.bind] at h ⊢
   cases c with
   | false=>rfl
   | true=>
    simp only [if_true] at h ⊢
    cases hb:b ρ with
    | no=>rfl
    | err c=>rfl
    | ok f=>
     rw [hb] at h
     cases f with
     | nx ρ2=>exact wJ h (by omega)
     | ctn ρ2=>exact wJ h (by omega)
     | brk ρ2=>rfl
     | ret r=>rfl
theorem fV {t:Tv} {b:Sv} {n:Nat} {ρ:Rho} (h:wh t b n ρ≠.no):fA t b ρ=wh t b n ρ:=by
 have hx:∃ n,wh t b n ρ≠.no:=⟨n,h⟩
 unfold fA
 rw [dif_pos hx]
 rcases Nat.le_total n hx.choose with l | l
 ·exact wJ h l
 ·exact (wJ hx.choose_spec l).symm
theorem mK {t:Tv} {b:Sv} {ρ:Rho} (h:fA t b ρ≠.no):∃ n,fA t b ρ=wh t b n ρ:=by
 unfold fA at h ⊢
 split
 ·exact ⟨_,rfl⟩
 ·rename_i hx;rw [dif_neg hx] at h;exact absurd rfl h
theorem zAy {t:Tv} {b:Sv} {ρ:Rho}:fA t b ρ=((t ρ).bind fun c=>if c=true then (b ρ).bind fun f=>match f with
   | .nx ρ2=>fA t b ρ2
   | .ctn ρ2=>fA t b ρ2
   | .brk ρ2=>.ok (.nx ρ2)
   | .ret r=>.ok (.ret r)
  else .ok (.nx ρ)):=by
 have key:∀ n,wh t b (n+1) ρ≠.no->wh t b (n+1) ρ=((t ρ).bind fun c=>if c=true then (b ρ).bind fun f=>match f with
   | .nx ρ2=>fA t b ρ2
   | .ctn ρ2=>fA t b ρ2
   | .brk ρ2=>.ok (.nx ρ2)
   | .ret r=>.ok (.ret r)
  else .ok (.nx ρ)):=by
  intro n h
  rw [wh] at h ⊢
  cases ht:t ρ with
  | no=>rfl
  | err c=>rfl
  | ok c=>
   rw [ht] at h
   simp only [Res.bind] at h ⊢
   cases c with
   | false=>rfl
   | true=>
    simp only [if_true] at h ⊢
    cases hb:b ρ with
    | no=>rfl
    | err c=>rfl
    | ok f=>
     rw [hb] at h
     cases f with
     | nx ρ2=>exact (fV h).symm
     | ctn ρ2=>exact (fV h).symm
     | brk ρ2=>rfl
     | ret r=>rfl
 by_cases h:fA t b ρ=.no
 ·rw [h]
  cases ht:t ρ with
  | no=>rfl
  | err c=>
   exfalso
   have q:wh t b 1 ρ=.err c:=by rw [wh,ht];rfl
   have:=fV (t:=t) (b:=b) (ρ:=ρ) (n:=1) (by rw [q];exact fun z=>by cases z)
   rw [h,q] at this;cases this
  | ok c=>
   simp only [Res.bind]
   cases c with
   | false=>
    exfalso
    have q:wh t b 1 ρ=.ok (.nx ρ):=by rw [wh,ht];rfl
    have:=fV (t:=t) (b:=b) (ρ:=ρ) (n:=1) (by rw [q];exact fun z=>by cases z)
    rw [h,q] at this;cases this
   | true=>
    simp only [if_true]
    cases hb:b ρ with
    | no=>rfl
    | err c=>
     exfalso
     have q:wh t b 1 ρ=.err c:=by rw [wh,ht];simp [Res.bind,hb]
     have:=fV (t:=t) (b:=b) (ρ:=ρ) (n:=1) (by rw [q];exact fun z=>by cases z)
     rw [h,q] at this;cases this
    | ok f=>
     have again:∀ ρ2,(f=.nx ρ2∨f=.ctn ρ2)->fA t b ρ2=.no:=by
      intro ρ2 hf
      by_cases h2:fA t b ρ2=.no
      ·exact h2
      ·exfalso
       obtain ⟨n,e⟩:=mK h2
       have q:wh t b (n+1) ρ=wh t b n ρ2:=by
        rw [wh,ht]
        simp only [Res.bind,if_true,hb]
        rcases hf with rfl | rfl<;>rfl
       have h3:wh t b (n+1) ρ≠.no:=by rw [q,<-e];exact h2
       have:=fV h3
       rw [h] at this
       exact h3 this.symm
     cases f with
     | nx ρ2=>exact (again ρ2 (.inl rfl)).symm
     | ctn ρ2=>exact (again ρ2 (.inr rfl)).symm
     | brk ρ2=>
      exfalso
      have q:wh t b 1 ρ=.ok (.nx ρ2):=by rw [wh,ht];simp [Res.bind,hb]
      have:=fV (t:=t) (b:=b) (ρ:=ρ) (n:=1) (by rw [q];exact fun z=>by cases z)
      rw [h,q] at this;cases this
     | ret r=>
      exfalso
      have q:wh t b 1 ρ=.ok (.ret r):=by rw [wh,ht];simp [Res.bind,hb]
      have:=fV (t:=t) (b:=b) (ρ:=ρ) (n:=1) (by rw [q];exact fun z=>by cases z)
      rw [h,q] at this;cases this
 ·obtain ⟨n,e⟩:=mK h
  cases n with
  | zero=>rw [e] at h;exact absurd rfl h
  | succ n=>rw [e];exact key n (by rw [<-e];exact h)
def zKx (f:Fv) (g:Ev) (ρ:Rho):Res (List D):=(f ρ).bind fun ds=>(g ρ).bind fun d=>match d with
 | .int k=>if 0<=k/\k < 2^62/\ds.length * k.toNat<=16777216 then .ok (List.replicate k.toNat ds).flatten else .no
 | _=>.no
def jT (_ρ:Rho):Res Bool:=.ok true
def gZ (t:Tv) (f:Ev) (ρ:Rho):List D->Res (List D)
 | []=>.ok []
 | d::ds=>(noErr (t (ρ++[.val d]))).bind fun c=>if c=true then (noErr (f (ρ++[.val d]))).bind fun e=>(gZ t f ρ ds).bind fun es=>.ok (e::es) else gZ t f ρ ds
def kK (it:Fv) (t:Tv) (f:Ev) (ρ:Rho):Res (List D):=(it ρ).bind fun ds=>if ds.length<=16777215 then gZ t f ρ ds else .no
def start (n:Nat) (ds:List D):Rho:=ds.map Sl.val++List.replicate (n - ds.length) .un
def fin:Fl->Res Rt
 | .nx _=>.ok (.v .non)
 | .ret r=>.ok r
 | .brk _=>.no
 | .ctn _=>.no
def fn (p n:Nat) (b:Sv) (ds:List D):Res Rt:=if ds.length=p then (b (start n ds)).bind fin else .no
def zNS (e:Ev) (ρ:Rho):Res (List D):=(e ρ).bind fun d=>match d with
 | .tup ds=>.ok ds.reverse
 | _=>.no
def zHn:D->Option (List D)
 | .lst ds=>some ds
 | .tup ds=>some ds
 | _=>none
def iT:List D->List D->List D
 | a::r,b::q=>.tup [a,b]::iT r q
 | _,_=>[]
def zHG (a:Fv) (ρ:Rho):Res (List D):=(a ρ).bind fun ds=>match ds with
 | [x,y]=>match zHn x,zHn y with
  | some xs,some ys=>.ok (iT xs ys)
  | _,_=>.no
 | _=>.no
def fE (f:Ev) (ρ:Rho):List D->Res (List D)
 | []=>.ok []
 | .tup [a,b]::ds=>(noErr (f (ρ++[.val a,.val b]))).bind fun e=>(fE f ρ ds).bind fun es=>.ok (e::es)
 | _::_=>.no
def qI (it:Fv) (f:Ev) (ρ:Rho):Res (List D):=(it ρ).bind fun ds=>if ds.length<=16777215 then fE f ρ ds else .no
def zPT:D->Option Str
 | .str x=>some x
 | .int i=>if i.natAbs.log2 < 1920 then some (toString i) else none
 | _=>none
def zPM:Str->List D->Option Str
 | a,[]=>some a
 | a,d::r=>match zPT d with
  | some x=>if x.length<=sizeLine/\(a++x).length<=sizeLine then zPM (a++x) r else none
  | none=>none
def qM:List D->Option (List Int)
 | []=>some []
 | .int i::ds=>match qM ds with
  | some ns=>some (i::ns)
  | none=>none
 | _::_=>none
def zBm:List D->Res D
 | [.lst ds]=>(match qM ds with
  | some ns=>.ok (.int ns.sum)
  | none=>.no)
 | [.tup ds]=>(match qM ds with
  | some ns=>.ok (.int ns.sum)
  | none=>.no)
 | _=>.no
def chO:Option Nat->Res D
 | some c=>.ok (.str ⟨#[c]⟩)
 | none=>.no
def slS (l u:Option Int):D->Res D
 | .str x=>if x.length<=sizeLine then .ok (.str (Txt.slice x l u)) else .no
 | _=>.no
def oY (T:List (Str×Str)):D->Res D
 | .str x=>.ok (.bl (!(T.lookup x).isSome))
 | _=>.no
def zLx:Option Str->Res D
 | some y=>.ok (.str y)
 | none=>.no
def sZ (T:List (Str×Str)):D->Res D
 | .str x=>zLx (T.lookup x)
 | _=>.no
end L3
namespace L3
open PySem
end L3
namespace L3
open PySem
def fF (kz:List Int) (π:List Nat):Prop:=π.Perm (List.range kz.length)/\π.Pairwise (fun i j=>kz.getD i 0<=kz.getD j 0)/\π.Pairwise (fun i j=>kz.getD i 0=kz.getD j 0->i < j)
def zHq (b:Int):D->Res Int
 | .tup [.int t,.int d]=>if kF d && iP t (b.fdiv d) then .ok (t * b.fdiv d) else .no
 | _=>.no
def nH (b:Int):List D->Res (List Int)
 | []=>.ok []
 | d::r=>(zHq b d).bind fun k=>(nH b r).bind fun ks=>.ok (k::ks)
def iU (π:List Nat):List D:=π.map fun i:Nat=>D.int (i:Int)
theorem zJW {b k:Int} {d:D} (h:zHq b d=.ok k):∃ t c,d=.tup [.int t,.int c]/\kF c=true/\iP t (b.fdiv c)=true/\k=t * b.fdiv c:=by
 unfold zHq at h
 split at h
 ·rename_i t c
  split at h
  ·rename_i hc
   rw [Bool.and_eq_true] at hc
   cases h
   exact ⟨t,c,rfl,hc.1,hc.2,rfl⟩
  ·cases h
 ·cases h
theorem yB {b:Int}:∀ {rows:List D} {kz:List Int},nH b rows=.ok kz->kz.length=rows.length/\∀ (j:Nat) (k:Int),kz[j]?=some k->∃ d,rows[j]?=some d/\zHq b d=.ok k
 | [],kz,h=>by cases h;exact ⟨rfl,fun j k z=>by simp at z⟩
 | d::r,kz,h=>by
  unfold nH at h
  cases e:zHq b d with
  | no=>rw [e] at h;cases h
  | err c=>rw [e] at h;cases h
  | ok k0=>
   rw [e] at h
   have h':(nH b r).bind (fun ks=>Res.ok (k0::ks))=.ok kz:=h
   cases e2:nH b r with
   | no=>rw [e2] at h';cases h'
   | err c=>rw [e2] at h';cases h'
   | ok ks=>
    rw [e2] at h'
    cases h'
    obtain ⟨h1,h2⟩:=yB e2
    refine ⟨by rw [List.length_cons,List.length_cons,h1],fun j k z=>?_⟩
    cases j with
    | zero=>simp at z;subst z;exact ⟨d,rfl,e⟩
    | succ j=>exact h2 j k (by simpa using z)
def zCF (ρ:Rho):Res (List Int):=match ρ[0]?,ρ[1]? with
 | some (Sl.val (.lst rows)),some (Sl.val (.int b))=>if rows.length < 64 then nH b rows else .no
 | _,_=>.no
def yS (sa sb:Sv) (ds:List D):Res (List Int):=if ds.length=1 then (match sa (L3.start 3 ds) with
 | .ok (.nx ρ)=>(match sb ρ with
  | .ok (.nx ρ')=>zCF ρ'
  | _=>.no)
 | _=>.no) else .no
theorem zCO {b:Int}:∀ {rows:List D} {c:Str},nH b rows≠.err c
 | [],c,h=>by cases h
 | d::r,c,h=>by
  unfold nH at h
  have k0:∀ c,zHq b d≠.err c:=fun c z=>by
   unfold zHq at z
   split at z
   ·split at z<;>cases z
   ·cases z
  cases e:zHq b d with
  | no=>rw [e] at h;cases h
  | err c'=>exact k0 _ e
  | ok k=>
   rw [e] at h
   have h':(nH b r).bind (fun ks=>Res.ok (k::ks))=.err c:=h
   cases e2:nH b r with
   | no=>rw [e2] at h';cases h'
   | err c'=>exact zCO e2
   | ok ks=>rw [e2] at h';cases h'
theorem zNj {sa sb:Sv} (ds:List D) (c:Str):yS sa sb ds≠.err c:=fun h=>by
 unfold yS zCF at h
 split at h
 ·split at h
  ·split at h
   ·split at h
    ·split at h
     ·exact zCO h
     ·cases h
    ·cases h
   ·cases h
  ·cases h
 ·cases h
theorem zJu {sa sb:Sv} (ds:List D) (h:yS sa sb ds≠.no):ds.length=1:=by
 unfold yS at h
 split at h
 ·assumption
 ·exact absurd rfl h
open Classical in
def mC (kz:List Int) (F:List Nat->Res Fl):Res Fl:=if h:∃ x,∀ π,fF kz π->F π=x then h.choose else .no
theorem zEa {kz:List Int} {F:List Nat->Res Fl} {π:List Nat} (h:mC kz F≠.no) (hπ:fF kz π):F π=mC kz F:=by
 unfold mC at h ⊢
 split at h
 ·rename_i z;rw [dif_pos z];exact z.choose_spec π hπ
 ·exact absurd rfl h
theorem zDR {kz:List Int} {F:List Nat->Res Fl} {x:Res Fl} {π:List Nat} (hπ:fF kz π) (h:∀ π,fF kz π->F π=x):mC kz F=x:=by
 have z:∃ x,∀ π,fF kz π->F π=x:=⟨x,h⟩
 unfold mC
 rw [dif_pos z,<-z.choose_spec π hπ]
 exact h π hπ
def zEy (fs:Fv) (kf:List D->Res (List Int)) (g:Gv) (b r:Sv):Sv:=fun ρ=>((fs ρ).bind kf).bind fun kz=>mC kz fun π=>aY (fun ρ=>eN g b (iU π) ρ) r ρ
end L3
namespace L3
open PySem
end L3
namespace L3
open PySem
abbrev Tri:=D×List D×List D
end L3
namespace L3
open PySem
def zIz (e:Ev):Fv:=fun ρ=>(e ρ).bind fun d=>match d with
 | .lst ds=>.ok ds.reverse
 | _=>.no
def zOT:D->Res (List D)
 | .lst ds=>.ok ds.reverse
 | _=>.no
theorem revL_l {ds:List D}:zOT (.lst ds)=.ok ds.reverse:=rfl
theorem iRevL_at {e:Ev} {ρ:Rho}:zIz e ρ=(e ρ).bind zOT:=by
 unfold zIz
 congr
end L3
namespace L3
open PySem
end L3
namespace L3
open PySem
end L3
namespace L3
open PySem
def zNC (kz:List Int) (i j:Nat):Bool:=decide (kz.getD i 0 < kz.getD j 0) || decide (kz.getD i 0=kz.getD j 0) && decide (i<=j)
theorem oG {kz:List Int} {i j:Nat}:zNC kz i j=true ↔ kz.getD i 0 < kz.getD j 0∨kz.getD i 0=kz.getD j 0/\i<=j:=by
 unfold zNC
 rw [Bool.or_eq_true,Bool.and_eq_true,decide_eq_true_eq,decide_eq_true_eq,decide_eq_true_eq]
def zCU (kz:List Int):List Nat:=(List.range kz.length).mergeSort (zNC kz)
theorem zFR (kz:List Int):(zCU kz).Pairwise fun i j=>zNC kz i j=true:=
 List.pairwise_mergeSort (le:=zNC kz) (fun a b c h1 h2=>by rw [oG] at *;omega) (fun a b=>by rw [Bool.or_eq_true,oG,oG];omega) _
theorem zEH (kz:List Int):fF kz (zCU kz):=by
 have p:(zCU kz).Perm (List.range kz.length):=List.mergeSort_perm _ _
 have nd:(zCU kz).Nodup:=p.nodup_iff.mpr List.nodup_range
 have w:=zFR kz
 refine ⟨p,w.imp fun h=>?_,(List.Pairwise.and w nd).imp fun h=>?_⟩
 ·rw [oG] at h;omega
 ·obtain ⟨h1,h2⟩:=h
  rw [oG] at h1
  intro e
  omega
end L3
namespace L3
open PySem
end L3
namespace L3
open PySem
end L3
namespace L3
open PySem
end L3
namespace L3
open PySem
end L3
namespace L3
open PySem
def zNQ:Sl->Bool
 | .val _=>true
 | .un=>true
 | _=>false
def zHU (es:List D):Res Fl->Res (Bool×List D)
 | .ok (.ret (.v (.bl b)))=>.ok (b,es)
 | _=>.no
def zIe (np:Nat) (f3 f4:Ev) (sS:Sv) (es:List D) (ρ:Rho):Res (Bool×List D):=(noErr (f3 ρ)).bind fun c=>(noErr (f4 ρ)).bind fun d=>zHU (es++[c,d]) (sS (ρ.set np (.val (.lst (es++[c,d])))))
def zEe (np nl i1 i2:Nat) (f1 f2 f3 f4:Ev) (sS:Sv) (ds es:List D):Res (Bool×List D):=if ds.length=np/\np < nl/\i1≠np/\i2≠np/\es.length<=1000 then
  (noErr (f1 (L3.start nl ds))).bind fun a=>(noErr (f2 ((L3.start nl ds).set i1 (.val a)))).bind fun b=>zIe np f3 f4 sS es (((L3.start nl ds).set i1 (.val a)).set i2 (.val b))
 else .no
def zOV (ρ:Rho) (x:Nat):Res (Bool×List D)->Res Fl
 | .ok (true,es)=>.ok (.nx (ρ.set x (.own es)))
 | _=>.no
def zPv (ρ:Rho):Res (Bool×List D)->Res Fl
 | .ok (true,_)=>.ok (.nx ρ)
 | _=>.no
def zMJ (i j l x:Nat) (kf:List D->List D->Res (Bool×List D)) (ρ:Rho):Res Fl:=match ρ[i]?,ρ[j]?,ρ[l]?,ρ[x]? with
 | some (.val a),some (.val b),some (.val c),some (.own es)=>zOV ρ x (kf [a,b,c] es)
 | _,_,_,_=>.no
def zGe (i j l:Nat) (kf:List D->List D->Res (Bool×List D)) (ρ:Rho):Res Fl:=match ρ[i]?,ρ[j]?,ρ[l]? with
 | some (.val a),some (.val b),some (.val c)=>zPv ρ (kf [a,b,c] [])
 | _,_,_=>.no
theorem oQ {α β:Type} {r:Res α} {k:α->Res β} {y:β} (h:(noErr r).bind k=.ok y):∃ a,r=.ok a/\k a=.ok y:=by
 cases r with
 | ok a=>exact ⟨a,rfl,h⟩
 | err c=>cases h
 | no=>cases h
theorem zHW {es:List D} {r:Res Fl} {y:Bool×List D} (h:zHU es r=.ok y):∃ b,r=.ok (.ret (.v (.bl b)))/\y=(b,es):=by
 unfold zHU at h
 split at h
 ·rename_i b;cases h;exact ⟨b,rfl,rfl⟩
 ·cases h
theorem zIh {np nl i1 i2:Nat} {f1 f2 f3 f4:Ev} {sS:Sv} {ds es:List D} {y:Bool×List D} (h:zEe np nl i1 i2 f1 f2 f3 f4 sS ds es=.ok y):ds.length=np/\np < nl/\i1≠np/\i2≠np/\es.length<=1000/\∃ a b c d r,f1 (L3.start nl ds)=.ok a/\f2 ((L3.start nl ds).set i1 (.val a))=.ok b/\f3 (((L3.start nl ds).set i1 (.val a)).set i2 (.val b))=.ok c/\f4 (((L3.start nl ds).set i1 (.val a)).set i2 (.val b))=.ok d/\sS ((((L3.start nl ds).set i1 (.val a)).set i2 (.val b)).set np (.val (.lst (es++[c,d]))))=.ok (.ret (.v (.bl r)))/\y=(r,es++[c,d]):=by
 unfold zEe at h
 split at h
 ·rename_i z
  obtain ⟨a,e1,h⟩:=oQ h
  obtain ⟨b,e2,h⟩:=oQ h
  unfold zIe at h
  obtain ⟨c,e3,h⟩:=oQ h
  obtain ⟨d,e4,h⟩:=oQ h
  obtain ⟨r,e5,e6⟩:=zHW h
  exact ⟨z.1,z.2.1,z.2.2.1,z.2.2.2.1,z.2.2.2.2,a,b,c,d,r,e1,e2,e3,e4,e5,e6⟩
 ·cases h
theorem zHE {np nl i1 i2:Nat} {f1 f2 f3 f4:Ev} {sS:Sv} {ds es:List D} {a b c d:D} {r:Bool} (h:ds.length=np/\np < nl/\i1≠np/\i2≠np/\es.length<=1000) (e1:f1 (L3.start nl ds)=.ok a) (e2:f2 ((L3.start nl ds).set i1 (.val a))=.ok b) (e3:f3 (((L3.start nl ds).set i1 (.val a)).set i2 (.val b))=.ok c) (e4:f4 (((L3.start nl ds).set i1 (.val a)).set i2 (.val b))=.ok d) (e5:sS ((((L3.start nl ds).set i1 (.val a)).set i2 (.val b)).set np (.val (.lst (es++[c,d]))))=.ok (.ret (.v (.bl r)))):zEe np nl i1 i2 f1 f2 f3 f4 sS ds es=.ok (r,es++[c,d]):=by
 unfold zEe
 rw [if_pos h,e1]
 show (noErr (f2 _)).bind _=_
 rw [e2]
 show zIe _ _ _ _ _ _=_
 unfold zIe
 rw [e3]
 show (noErr (f4 _)).bind _=_
 rw [e4]
 show zHU _ _=_
 rw [e5]
 rfl
end L3
namespace Fq
theorem zCs {a b:Int} (ha:0<=a) (hb:0 < b):Int.gcd b (a % b)=Int.gcd a b:=by
 obtain ⟨m,rfl⟩:=Int.eq_ofNat_of_zero_le ha
 obtain ⟨n,rfl⟩:=Int.eq_ofNat_of_zero_le (Int.le_of_lt hb)
 show Nat.gcd n (m % n)=Nat.gcd m n
 rw [Nat.gcd_comm n (m % n),Nat.gcd_comm m n,Nat.gcd_rec n m]
def dv (t b:Int):Int:=if b < 0 then -(Int.gcd t b:Int) else (Int.gcd t b:Int)
theorem zJK {t b:Int} (hb:b≠0):0 < (Int.gcd t b:Int):=by
 have h:Int.gcd t b≠0:=fun h=>hb (Int.gcd_eq_zero_iff.mp h).2
 omega
theorem zLL {t b:Int} (hb:b≠0):dv t b≠0:=by
 have:=zJK (t:=t) hb
 unfold dv;split<;>omega
theorem zE (t b:Int):dv t b ∣ t:=by
 unfold dv;split
 ·exact Int.neg_dvd.mpr (Int.gcd_dvd_left ..)
 ·exact Int.gcd_dvd_left ..
theorem zDo (t b:Int):dv t b ∣ b:=by
 unfold dv;split
 ·exact Int.neg_dvd.mpr (Int.gcd_dvd_right ..)
 ·exact Int.gcd_dvd_right ..
theorem nE {t d:Int} (h:d ∣ t):t.fdiv d=t / d:=by
 rw [Int.fdiv_eq_ediv]
 simp [h]
theorem wF {t b:Int} (hb:b≠0):t.fdiv (dv t b)=(Rat.divInt t b).num:=by
 rw [nE (zE t b),Rat.num_divInt,Int.gcd_comm b t]
 unfold dv
 rcases Int.lt_trichotomy b 0 with h | h | h
 ·rw [if_pos h,Int.sign_eq_neg_one_of_neg h,Int.ediv_neg]
  have:(-1:Int) * t=-t:=by omega
  rw [this,Int.neg_ediv_of_dvd (Int.gcd_dvd_left ..)]
 ·exact absurd h hb
 ·rw [if_neg (by omega),Int.sign_eq_one_of_pos h,Int.one_mul]
theorem vV {t b:Int} (hb:b≠0):b.fdiv (dv t b)=((Rat.divInt t b).den:Int):=by
 rw [nE (zDo t b),Rat.den_divInt,if_neg hb,Int.gcd_comm b t]
 unfold dv
 rcases Int.lt_trichotomy b 0 with h | h | h
 ·rw [if_pos h,Int.ediv_neg,Int.natCast_ediv]
  have e:((b.natAbs:Nat):Int)=-b:=by omega
  rw [e,Int.neg_ediv_of_dvd (Int.gcd_dvd_right ..)]
 ·exact absurd h hb
 ·rw [if_neg (by omega),Int.natCast_ediv]
  have e:((b.natAbs:Nat):Int)=b:=by omega
  rw [e]
theorem cV (q:Rat):(q.den:Int)≠0:=by have:=q.den_nz;omega
theorem iX (q:Rat):(0:Int) < (q.den:Int):=by have:=q.den_nz;omega
theorem zGq (p q:Rat):Rat.divInt (p.num * q.den+q.num * p.den) (p.den * q.den)=p+q:=by
 rw [<-Rat.divInt_add_divInt _ _ (cV p) (cV q),Rat.num_divInt_den,Rat.num_divInt_den]
theorem zHh (p q:Rat):Rat.divInt (p.num * q.den - q.num * p.den) (p.den * q.den)=p - q:=by
 rw [<-Rat.divInt_sub_divInt _ _ (cV p) (cV q),Rat.num_divInt_den,Rat.num_divInt_den]
theorem zEE (p q:Rat):Rat.divInt (p.num * q.num) (p.den * q.den)=p * q:=by
 rw [<-Rat.divInt_mul_divInt,Rat.num_divInt_den,Rat.num_divInt_den]
theorem zFl (p q:Rat):Rat.divInt (p.num * q.den) (p.den * q.num)=p / q:=by
 rw [<-Rat.divInt_mul_divInt,Rat.num_divInt_den,Rat.div_def,Rat.inv_def]
theorem zGU {q:Rat}:q.num≠0 ↔ q≠0:=by
 constructor
 ·intro h e;exact h (by rw [e];rfl)
 ·intro h e;exact h (Rat.num_eq_zero.mp e)
def Sz (n:Nat) (q:Rat):Prop:=q.num.natAbs < 2^n/\q.den < 2^n
theorem Sz.mono {m n:Nat} {q:Rat} (h:Sz m q) (l:m<=n):Sz n q:=
 ⟨Nat.lt_of_lt_of_le h.1 (Nat.pow_le_pow_right (by decide) l),Nat.lt_of_lt_of_le h.2 (Nat.pow_le_pow_right (by decide) l)⟩
theorem zMq {t b:Int} (hb:b≠0):(Rat.divInt t b).num.natAbs<=t.natAbs:=by
 rw [<-wF hb,nE (zE t b),Int.natAbs_ediv_of_dvd (zE t b)]
 exact Nat.div_le_self ..
theorem zCC {t b:Int} (hb:b≠0):(Rat.divInt t b).den<=b.natAbs:=by
 rw [Rat.den_divInt,if_neg hb]
 exact Nat.div_le_self ..
theorem Sz.of {n:Nat} {t b:Int} (hb:b≠0) (ht:t.natAbs < 2^n) (h:b.natAbs < 2^n):Sz n (Rat.divInt t b):=
 ⟨Nat.lt_of_le_of_lt (zMq hb) ht,Nat.lt_of_le_of_lt (zCC hb) h⟩
theorem dW {a b:Int} {m n:Nat} (ha:a.natAbs < 2^m) (hb:b.natAbs < 2^n):(a * b).natAbs < 2^(m+n):=by
 rw [Int.natAbs_mul,Nat.pow_add]
 exact Nat.mul_lt_mul'' ha hb
theorem zMo {a b:Int} {m:Nat} (ha:a.natAbs < 2^m) (hb:b.natAbs < 2^m):(a+b).natAbs < 2^(m+1):=by
 rw [Nat.pow_succ];omega
theorem zNq {a b:Int} {m:Nat} (ha:a.natAbs < 2^m) (hb:b.natAbs < 2^m):(a - b).natAbs < 2^(m+1):=by
 rw [Nat.pow_succ];omega
theorem Sz.d {n:Nat} {q:Rat} (h:Sz n q):((q.den:Int)).natAbs < 2^n:=h.2
theorem Sz.add {m n:Nat} {p q:Rat} (hp:Sz m p) (hq:Sz n q):Sz (m+n+1) (p+q):=by
 rw [<-zGq]
 refine Sz.of (by have:=iX p;have:=iX q;exact Int.mul_ne_zero (cV p) (cV q)) (zMo (dW hp.1 hq.d) ?_) ?_
 ·rw [Nat.add_comm m n];exact dW hq.1 hp.d
 ·exact Nat.lt_of_lt_of_le (dW hp.d hq.d) (Nat.pow_le_pow_right (by decide) (by omega))
theorem Sz.sub {m n:Nat} {p q:Rat} (hp:Sz m p) (hq:Sz n q):Sz (m+n+1) (p - q):=by
 rw [<-zHh]
 refine Sz.of (Int.mul_ne_zero (cV p) (cV q)) (zNq (dW hp.1 hq.d) ?_) ?_
 ·rw [Nat.add_comm m n];exact dW hq.1 hp.d
 ·exact Nat.lt_of_lt_of_le (dW hp.d hq.d) (Nat.pow_le_pow_right (by decide) (by omega))
theorem Sz.mul {m n:Nat} {p q:Rat} (hp:Sz m p) (hq:Sz n q):Sz (m+n) (p * q):=by
 rw [<-zEE]
 exact Sz.of (Int.mul_ne_zero (cV p) (cV q)) (dW hp.1 hq.1) (dW hp.d hq.d)
theorem Sz.div {m n:Nat} {p q:Rat} (hp:Sz m p) (hq:Sz n q) (h:q≠0):Sz (m+n) (p / q):=by
 rw [<-zFl]
 exact Sz.of (Int.mul_ne_zero (cV p) (zGU.mpr h)) (dW hp.1 hq.d) (dW hp.d hq.1)
theorem zCH {q:Rat} (h:0 < q):0 < q.num:=by
 have:=Rat.num_nonneg.mpr (Rat.le_of_lt h)
 have h2:q.num≠0:=zGU.mpr (by intro z;rw [z] at h;exact absurd h (by decide))
 omega
theorem zGG {q:Rat} (h:0 < q):q⁻¹.num=q.den:=by
 rw [Rat.num_inv,Int.sign_eq_one_of_pos (zCH h),Int.one_mul]
theorem zFW {q:Rat} (h:0 < q):(q⁻¹.den:Int)=q.num:=by
 have:=zCH h
 rw [Rat.den_inv,if_neg (by omega)]
 omega
theorem Sz.inv {n:Nat} {q:Rat} (h:Sz n q) (h0:0 < q):Sz n q⁻¹:=by
 refine ⟨by rw [zGG h0];exact h.2,?_⟩
 have h1:=h.1
 have:=zFW h0
 omega
end Fq
namespace Fr
open L3 PySem Fq
theorem zJa {t:Tv} {b:Sv} {ρ:Rho} (P:Rho->Prop) (μ:Rho->Nat) (Q:Res Fl->Prop) (h0:P ρ)
  (step:∀ ρ,P ρ->(t ρ=.ok false/\Q (.ok (.nx ρ)))∨(t ρ=.ok true/\∃ ρ',b ρ=.ok (.nx ρ')/\P ρ'/\μ ρ' < μ ρ)):Q (fA t b ρ):=by
 have main:∀ n ρ,μ ρ<=n->P ρ->Q (fA t b ρ):=by
  intro n
  induction n with
  | zero=>
   intro ρ hn hp
   rw [zAy]
   rcases step ρ hp with ⟨h1,h2⟩ | ⟨h1,ρ',h2,h3,h4⟩
   ·rw [h1];exact h2
   ·omega
  | succ n ih=>
   intro ρ hn hp
   rw [zAy]
   rcases step ρ hp with ⟨h1,h2⟩ | ⟨h1,ρ',h2,h3,h4⟩
   ·rw [h1];exact h2
   ·rw [h1]
    simp only [Res.bind,if_true,h2]
    exact ih ρ' (by omega) h3
 exact main _ ρ (Nat.le_refl _) h0
theorem zCX {g:Gv} {b:Sv} (P:Nat->Rho->Prop):∀ (ds:List D) (k:Nat) (ρ:Rho),P k ρ->
  (∀ i d ρ,ds[i]?=some d->P (k+i) ρ->∃ ρ1 ρ2,g d ρ=.ok ρ1/\(b ρ1=.ok (.nx ρ2)∨b ρ1=.ok (.ctn ρ2))/\P (k+i+1) ρ2)->∃ ρ',eN g b ds ρ=.ok (.nx ρ')/\P (k+ds.length) ρ'
 | [],k,ρ,h,_=>⟨ρ,rfl,h⟩
 | d::ds,k,ρ,h,st=>by
  obtain ⟨ρ1,ρ2,h1,h2,h3⟩:=st 0 d ρ rfl h
  obtain ⟨ρ',e,hp⟩:=zCX P ds (k+1) ρ2 h3 fun i d' ρ' hd hp=>by
   have:=st (i+1) d' ρ' (by simpa using hd) (by rw [show k+(i+1)=k+1+i by omega];exact hp)
   rw [show k+(i+1)=k+1+i by omega] at this
   exact this
  refine ⟨ρ',?_,by rw [List.length_cons,show k+(ds.length+1)=k+1+ds.length by omega];exact hp⟩
  rw [eN,h1]
  simp only [Res.bind]
  rcases h2 with h2 | h2<;>(rw [h2];exact e)
theorem zHY {g:Gv} {b:Sv} {ds:List D} {ρ:Rho} (P:Rho->Prop) (h0:P ρ) (st:∀ d ρ,d∈ds->P ρ->∃ ρ1 ρ2,g d ρ=.ok ρ1/\(b ρ1=.ok (.nx ρ2)∨b ρ1=.ok (.ctn ρ2))/\P ρ2):∃ ρ',eN g b ds ρ=.ok (.nx ρ')/\P ρ':=by
 obtain ⟨ρ',e,hp⟩:=zCX (fun _=>P) ds 0 ρ h0 fun i d ρ hd hp=>st d ρ (List.mem_of_getElem? hd) hp
 exact ⟨ρ',e,hp⟩
theorem zGN {i:Int} {m:Nat} (h:i.natAbs < 2^m):nb i<=m+1:=zOp (Nat.lt_of_lt_of_le h (Nat.pow_le_pow_right (by decide) (by omega))) (by omega)
theorem bF {i j:Int} {m n:Nat} (hi:i.natAbs < 2^m) (hj:j.natAbs < 2^n) (h:m+n<=100000000):iP i j=true:=by
 unfold iP
 have h1:=zGN hi
 have h2:=zGN hj
 rw [Bool.or_eq_true]
 exact .inr (decide_eq_true (by omega))
theorem zJQ {i j:Int} (h1:-(2^64) < j) (h2:j < 2^64):iP i j=true:=by
 unfold iP
 rw [Bool.or_eq_true,Bool.or_eq_true]
 exact .inl (.inr (by rw [decide_eq_true h1,decide_eq_true h2];rfl))
theorem zLs {i j:Int} (h1:-(2^64) < i) (h2:i < 2^64):iP i j=true:=by
 unfold iP
 rw [Bool.or_eq_true,Bool.or_eq_true]
 exact .inl (.inl (by rw [decide_eq_true h1,decide_eq_true h2];rfl))
theorem rF {j:Int} {m:Nat} (h0:j≠0) (hj:j.natAbs < 2^m) (h:m<=8999):kF j=true:=by
 unfold kF
 have h1:=zGN hj
 rw [decide_eq_true h0,decide_eq_true (show nb j<=9000 by omega)]
 rfl
theorem okDiv_lit {j:Int} (h0:0 < j) (h:j < 1000000000000000000):kF j=true:=rF (m:=64) (by omega) (by omega) (by decide)
theorem okMul_litr {i j:Int} (h1:-1000000000000000000 < j) (h2:j < 1000000000000000000):iP i j=true:=zJQ (by omega) (by omega)
theorem okMul_litl {i j:Int} (h1:-1000000000000000000 < i) (h2:i < 1000000000000000000):iP i j=true:=zLs (by omega) (by omega)
theorem p10 (n:Nat):(0:Int) < 10^n:=Int.pow_pos (by decide)
theorem p10ne (n:Nat):((10:Int)^n=0)=False:=eq_false (by have:=p10 n;omega)
theorem p10pos2 (n:Nat):(0:Int) < 2 * 10^n:=by have:=p10 n;omega
theorem p10ne2 (n:Nat):((2:Int) * 10^n=0)=False:=eq_false (by have:=p10 n;omega)
theorem okp30:sX 10 30=true:=by decide
def dq (q:Rat):D:=.tup [.int q.num,.int (q.den:Int)]
def dp (p:Rat×Rat):D:=.tup [dq p.1,dq p.2]
theorem eq_dq (p q:Rat):eqD (dq p) (dq q)=decide (p=q):=by
 show ((p.num==q.num) && (((p.den:Int)==(q.den:Int)) && true))=decide (p=q)
 by_cases h:p=q
 ·subst h;simp
 ·rw [decide_eq_false h]
  by_cases h1:p.num=q.num
  ·have h2:p.den≠q.den:=fun e=>h (Rat.ext h1 e)
   have:((p.den:Int)==(q.den:Int))=false:=by simp;omega
   rw [this];simp
  ·simp [h1]
theorem dep_dq (q:Rat):dep (dq q)=1:=rfl
theorem ix_dq0 (q:Rat):oIx (dq q) (.int 0)=.ok (.int q.num):=rfl
theorem ix_dq1 (q:Rat):oIx (dq q) (.int 1)=.ok (.int (q.den:Int)):=rfl
theorem ty_dq (q:Rat):tyN (dq q) = "tuple" := rfl
theorem len_dq (q:Rat):kP [dq q]=.ok (.int 2):=rfl
theorem oEq_dq (p q:Rat):oEq (dq p) (dq q)=.ok (.bl (decide (p=q))):=by
 rw [<-eq_dq];rfl
theorem oNe_dq (p q:Rat):oNe (dq p) (dq q)=.ok (.bl (!decide (p=q))):=by
 rw [<-eq_dq];rfl
theorem noL_dq (q:Rat):noL (dq q)=true:=rfl
theorem zMk (p q:Rat×Rat):eqD (dp p) (dp q)=decide (p=q):=by
 show (eqD (dq p.1) (dq q.1) && (eqD (dq p.2) (dq q.2) && true))=decide (p=q)
 rw [eq_dq,eq_dq]
 obtain ⟨a,b⟩:=p
 obtain ⟨c,d⟩:=q
 simp
theorem dp_mk (a b:Rat):(.tup [dq a,dq b]:D)=dp (a,b):=rfl
theorem ix_dp0 (p:Rat×Rat):oIx (dp p) (.int 0)=.ok (dq p.1):=rfl
theorem ix_dp1 (p:Rat×Rat):oIx (dp p) (.int 1)=.ok (dq p.2):=rfl
theorem ty_dp (p:Rat×Rat):tyN (dp p) = "tuple" := rfl
theorem len_dp (p:Rat×Rat):kP [dp p]=.ok (.int 2):=rfl
theorem dep_dp (p:Rat×Rat):dep (dp p)=2:=rfl
theorem noL_dp (p:Rat×Rat):noL (dp p)=true:=rfl
theorem oEq_dp (p q:Rat×Rat):oEq (dp p) (dp q)=.ok (.bl (decide (p=q))):=by
 rw [<-zMk];rfl
theorem oNe_dp (p q:Rat×Rat):oNe (dp p) (dp q)=.ok (.bl (!decide (p=q))):=by
 rw [<-zMk];rfl
theorem zMc {q:Rat} (h:0 < q):(.tup [.int (q.den:Int),.int q.num]:D)=dq q⁻¹:=by
 unfold dq
 rw [Fq.zGG h,Fq.zFW h]
theorem fdiv_pos (a:Int) {b:Int} (h:0 < b):a.fdiv b=a / b:=Int.fdiv_eq_ediv_of_nonneg a (by omega)
theorem fmod_pos (a:Int) {b:Int} (h:0 < b):a.fmod b=a % b:=Int.fmod_eq_emod_of_nonneg a (by omega)
theorem zLc (a:Int) {b:Int} (h:0<=b):a.fdiv b=a / b:=Int.fdiv_eq_ediv_of_nonneg a h
theorem zBo (a:Int) {b:Int} (h:0<=b):a.fmod b=a % b:=Int.fmod_eq_emod_of_nonneg a h
theorem zDq:∀ l:List Rat,depS (l.map dq)<=1
 | []=>Nat.zero_le _
 | q::l=>by rw [List.map_cons,depS];exact Nat.max_le.mpr ⟨Nat.le_refl _,zDq l⟩
theorem zDs:∀ l:List (Rat×Rat),depS (l.map dp)<=2
 | []=>Nat.zero_le _
 | q::l=>by rw [List.map_cons,depS];exact Nat.max_le.mpr ⟨Nat.le_refl _,zDs l⟩
theorem zKD (l:List (Rat×Rat)):dep (.tup (l.map dp))<=50:=by rw [dep];have:=zDs l;omega
theorem noLs_dps:∀ l:List (Rat×Rat),noLs (l.map dp)=true
 | []=>rfl
 | q::l=>by rw [List.map_cons,noLs,noL_dp,noLs_dps l];rfl
theorem zDW {α:Type} {l:List α} {i:Nat} {a:α} (h:l[i]?=some a):l.take (i+1)=l.take i++[a]:=by rw [List.take_succ,h];rfl
theorem zLW (l:List Rat) (x:Rat):(l.map dq).any (fun e=>eqD e (dq x))=decide (x∈l):=by
 induction l with
 | nil=>rfl
 | cons a l ih=>
  rw [List.map_cons,List.any_cons,ih,eq_dq]
  by_cases c:a=x
  ·subst c;simp
  ·rw [decide_eq_false c,Bool.false_or]
   congr 1
   apply propext
   rw [List.mem_cons]
   exact ⟨.inr,fun h=>h.resolve_left fun z=>c z.symm⟩
theorem tP (l:List Rat) (x:Rat):sA (dq x) (.lst (l.map dq))=.ok (.bl (!decide (x∈l))):=by
 show (if depS (l.map dq)<=50 then _ else _)=_
 rw [if_pos (Nat.le_trans (zDq l) (by decide)),zLW]
theorem zME {b:Int} (h:0 < b):(.tup [.int 1,.int b]:D)=dq (Rat.divInt 1 b):=by
 have hb:b≠0:=by omega
 have e:Fq.dv 1 b=1:=by unfold Fq.dv;rw [if_neg (by omega)];simp
 unfold dq
 rw [<-Fq.wF hb,<-Fq.vV hb,e]
 simp
theorem zDd (k:Int):(.tup [.int k,.int 1]:D)=dq (k:Rat):=rfl
end Fr
namespace L3
open PySem
def zEi (b:Sv):Fl->Res Fl
 | .nx ρ=>b ρ
 | .ret r=>.ok (.ret r)
 | .brk ρ=>.ok (.brk ρ)
 | .ctn ρ=>.ok (.ctn ρ)
theorem sSeq_at {a b:Sv} {ρ:Rho}:aY a b ρ=(a ρ).bind (zEi b):=by
 unfold aY;congr;funext f;cases f<;>rfl
def ifF (a b:Sv) (ρ:Rho):Bool->Res Fl
 | true=>a ρ
 | false=>b ρ
theorem sIf_at {t:Tv} {a b:Sv} {ρ:Rho}:sIf t a b ρ=(t ρ).bind (ifF a b ρ):=by
 unfold sIf;congr;funext c;cases c<;>rfl
def zOm (a b:Ev) (ρ:Rho):Bool->Res D
 | true=>a ρ
 | false=>b ρ
theorem eIf_at {t:Tv} {a b:Ev} {ρ:Rho}:eIf t a b ρ=(t ρ).bind (zOm a b ρ):=by
 unfold eIf;congr;funext c;cases c<;>rfl
def zOa (b:Ev) (ρ:Rho):D->Res D
 | .bl true=>b ρ
 | .bl false=>.ok (.bl false)
 | _=>.no
theorem eAnd_at {a b:Ev} {ρ:Rho}:zNN a b ρ=(a ρ).bind (zOa b ρ):=by
 unfold zNN;congr;funext c;cases c<;>try rfl
 rename_i c;cases c<;>rfl
def orF (b:Ev) (ρ:Rho):D->Res D
 | .bl true=>.ok (.bl true)
 | .bl false=>b ρ
 | _=>.no
theorem eOr_at {a b:Ev} {ρ:Rho}:eOr a b ρ=(a ρ).bind (orF b ρ):=by
 unfold eOr;congr;funext c;cases c<;>try rfl
 rename_i c;cases c<;>rfl
def opF (o:Op2) (b:Ev) (ρ:Rho) (x:D):Res D:=(b ρ).bind (o x)
theorem eOp_at {o:Op2} {a b:Ev} {ρ:Rho}:eOp o a b ρ=(a ρ).bind (opF o b ρ):=rfl
def consG (d:D) (ds:List D):Res (List D):=.ok (d::ds)
def consF (r:Fv) (ρ:Rho) (d:D):Res (List D):=(r ρ).bind (consG d)
theorem aCons_at {e:Ev} {r:Fv} {ρ:Rho}:aB e r ρ=(e ρ).bind (consF r ρ):=rfl
def tupF (ds:List D):Res D:=if ds.length<=16777216 then .ok (.tup ds) else .no
theorem eTup_at {a:Fv} {ρ:Rho}:rK a ρ=(a ρ).bind tupF:=rfl
def rtF (r:Rt):Res D:=.ok r.d
def callF (m:Mir) (ds:List D):Res D:=(m ds).bind rtF
theorem eCall_at {m:Mir} {a:Fv} {ρ:Rho}:aP m a ρ=(a ρ).bind (callF m):=rfl
def isTF (T:String) (d:D):Res D:=.ok (.bl (isT T d))
theorem eIsT_at {T:String} {a:Ev} {ρ:Rho}:zJn T a ρ=(a ρ).bind (isTF T):=rfl
def frzF (d:D):Res D:=if noL d=true then .ok d else .no
theorem eFrz_at {e:Ev} {ρ:Rho}:zNX e ρ=(e (ρ.map Sl.frz)).bind frzF:=rfl
def fLstF (ds:List D):Res (List D):=if ds.length<=16777216 then .ok ds else .no
theorem fLst_at {a:Fv} {ρ:Rho}:vH a ρ=(a ρ).bind fLstF:=rfl
def rtFF:Rt->Res (List D)
 | .f ds=>.ok ds
 | .v _=>.no
def fcallF (m:Mir) (ds:List D):Res (List D):=(m ds).bind rtFF
theorem fCall_at {m:Mir} {a:Fv} {ρ:Rho}:fQ m a ρ=(a ρ).bind (fcallF m):=by
 unfold fQ fcallF;congr
def zEx:List D->Res (List D)
 | [.lst ds]=>.ok ds
 | [.tup ds]=>.ok ds
 | _=>.no
theorem fListF_l {ds:List D}:zEx [.lst ds]=.ok ds:=rfl
theorem fListF_t {ds:List D}:zEx [.tup ds]=.ok ds:=rfl
theorem fList_at {a:Fv} {ρ:Rho}:zJH a ρ=(a ρ).bind zEx:=rfl
def catG (x y:D):Res (List D):=match x,y with
 | .lst ds,.lst es=>if ds.length+es.length<=16777216 then .ok (ds++es) else .no
 | _,_=>.no
def catF (b:Ev) (ρ:Rho) (x:D):Res (List D):=(b ρ).bind (catG x)
theorem fCat_at {a b:Ev} {ρ:Rho}:zOB a b ρ=(a ρ).bind (catF b ρ):=rfl
def efF (ds:List D):Res D:=.ok (.lst ds)
theorem eF_at {f:Fv} {ρ:Rho}:eF f ρ=(f ρ).bind efF:=rfl
def oSF:D->Res (Option Int)
 | .int i=>.ok (some i)
 | _=>.no
theorem oS_at {e:Ev} {ρ:Rho}:oS e ρ=(e ρ).bind oSF:=by
 unfold oS;congr
def fSlH (x:D) (l h:Option Int):Res (List D):=match x with
 | .lst ds=>.ok (jW ds l h)
 | _=>.no
def fSlG (hi:Ov) (ρ:Rho) (x:D) (l:Option Int):Res (List D):=(hi ρ).bind (fSlH x l)
def fSlF (lo hi:Ov) (ρ:Rho) (x:D):Res (List D):=(lo ρ).bind (fSlG hi ρ x)
theorem fSl_at {a:Ev} {lo hi:Ov} {ρ:Rho}:fSl a lo hi ρ=(a ρ).bind (fSlF lo hi ρ):=rfl
def zPZ (x:D) (l h:Option Int):Res D:=match x with
 | .tup ds=>if (jW ds l h).length < ds.length then .ok (.tup (jW ds l h)) else .no
 | _=>.no
def blF:D->Res Bool
 | .bl b=>.ok b
 | _=>.no
theorem tVal_at {e:Ev} {ρ:Rho}:dQ e ρ=(e ρ).bind blF:=by
 unfold dQ;congr
def notF (b:Bool):Res Bool:=.ok (!b)
theorem tNotB_at {t:Tv} {ρ:Rho}:mW t ρ=(t ρ).bind notF:=rfl
def zKg (u:Tv) (ρ:Rho):Bool->Res Bool
 | true=>u ρ
 | false=>.ok false
theorem tAndB_at {t u:Tv} {ρ:Rho}:zDP t u ρ=(t ρ).bind (zKg u ρ):=by
 unfold zDP;congr;funext c;cases c<;>rfl
def zOn (u:Tv) (ρ:Rho):Bool->Res Bool
 | true=>.ok true
 | false=>u ρ
theorem tOrB_at {t u:Tv} {ρ:Rho}:zDb t u ρ=(t ρ).bind (zOn u ρ):=by
 unfold zDb;congr;funext c;cases c<;>rfl
def setF (i:Nat) (ρ:Rho) (d:D):Res Fl:=.ok (.nx (ρ.set i (.val d)))
theorem sSet_at {i:Nat} {e:Ev} {ρ:Rho}:dP i e ρ=(e ρ).bind (setF i ρ):=rfl
def ownF (i:Nat) (ρ:Rho) (ds:List D):Res Fl:=.ok (.nx (ρ.set i (.own ds)))
theorem sOwn_at {i:Nat} {f:Fv} {ρ:Rho}:zEq i f ρ=(f ρ).bind (ownF i ρ):=rfl
def dropF (ρ:Rho) (_d:D):Res Fl:=.ok (.nx ρ)
theorem sDrop_at {e:Ev} {ρ:Rho}:zAE e ρ=(e ρ).bind (dropF ρ):=rfl
def retF (d:D):Res Fl:=.ok (.ret (.v d))
theorem sRet_at {e:Ev} {ρ:Rho}:gP e ρ=(e (ρ.map Sl.frz)).bind retF:=rfl
def retFF (ds:List D):Res Fl:=.ok (.ret (.f ds))
theorem sRetF_at {f:Fv} {ρ:Rho}:jO f ρ=(f (ρ.map Sl.frz)).bind retFF:=rfl
def raiseF (c:Str) (ds:List D):Res Fl:=if ds.length<=16777216 then .err c else .no
theorem sRaise_at {c:Str} {a:Fv} {ρ:Rho}:kD c a ρ=(a ρ).bind (raiseF c):=rfl
def appF (i:Nat) (ρ:Rho) (ds:List D) (d:D):Res Fl:=if ds.length < 16777216 then .ok (.nx (ρ.set i (.own (ds++[d])))) else .no
def appS (i:Nat) (e:Ev) (ρ:Rho):Option Sl->Res Fl
 | some (.own ds)=>(e ρ).bind (appF i ρ ds)
 | _=>.no
theorem sApp_at {i:Nat} {e:Ev} {ρ:Rho}:zEr i e ρ=appS i e ρ ρ[i]?:=by
 unfold zEr appS;rfl
def augF (i:Nat) (ρ:Rho) (o:Op2) (x y:D):Res Fl:=(o x y).bind (setF i ρ)
def augS (i:Nat) (o:Op2) (e:Ev) (ρ:Rho):Option Sl->Res Fl
 | some (.val x)=>(e ρ).bind (augF i ρ o x)
 | _=>.no
theorem sAug_at {i:Nat} {o:Op2} {e:Ev} {ρ:Rho}:zIR i o e ρ=augS i o e ρ ρ[i]?:=by
 unfold zIR augS;rfl
def dropG (ρ:Rho) (_r:Rt):Res Fl:=.ok (.nx ρ)
def setG (i:Nat) (ρ:Rho) (r:Rt):Res Fl:=.ok (.nx (ρ.set i (.val r.d)))
def varS:Option Sl->Res D
 | some (.val d)=>.ok d
 | _=>.no
theorem eVar_at {i:Nat} {ρ:Rho}:aF i ρ=varS ρ[i]?:=by
 unfold aF varS;rfl
def retS:Option Sl->Res Fl
 | some (.own ds)=>.ok (.ret (.f ds))
 | _=>.no
theorem sRetOwn_at {i:Nat} {ρ:Rho}:gT i ρ=retS ρ[i]?:=by
 unfold gT retS;rfl
def nxF (ρ:Rho):Res Fl:=.ok (.nx ρ)
def unpF (g:Gv) (ρ:Rho) (d:D):Res Fl:=(g d ρ).bind nxF
theorem sUnp_at {g:Gv} {f:Ev} {ρ:Rho}:zPz g f ρ=(f ρ).bind (unpF g ρ):=rfl
def gtF (gs:List D->Rho->Res Rho) (ρ:Rho):D->Res Rho
 | .tup ds=>gs ds ρ
 | _=>.no
theorem gTup_at {gs:List D->Rho->Res Rho} {d:D} {ρ:Rho}:zIn gs d ρ=gtF gs ρ d:=by
 unfold zIn gtF;rfl
theorem gCons_at {g:Gv} {r:List D->Rho->Res Rho} {d:D} {ds:List D} {ρ:Rho}:qR g r (d::ds) ρ=(g d ρ).bind (r ds):=rfl
theorem gNil_at {ρ:Rho}:zIb [] ρ=.ok ρ:=rfl
def forF (g:Gv) (b:Sv) (ρ:Rho) (ds:List D):Res Fl:=eN g b ds ρ
theorem sFor_at {it:Fv} {g:Gv} {b:Sv} {ρ:Rho}:rJ it g b ρ=(it ρ).bind (forF g b ρ):=rfl
def zIH:D->Res (List D)
 | .lst ds=>.ok ds
 | .tup ds=>.ok ds
 | _=>.no
theorem seqD_l {ds:List D}:zIH (.lst ds)=.ok ds:=rfl
theorem seqD_t {ds:List D}:zIH (.tup ds)=.ok ds:=rfl
theorem iSeq_at {e:Ev} {ρ:Rho}:qL e ρ=(e ρ).bind zIH:=by
 unfold qL;congr
def zMa:List D->Res (List D)
 | [.int j]=>if -(2^62)<=j/\j < 2^62 then .ok (rng 0 j.toNat 1) else .no
 | _=>.no
theorem iRng1_at {a:Fv} {ρ:Rho}:zBy a ρ=(a ρ).bind zMa:=rfl
def zNp:List D->Res (List D)
 | [.int i,.int j]=>if -(2^62)<=i/\i < 2^62/\-(2^62)<=j/\j < 2^62 then .ok (rng i (j - i).toNat 1) else .no
 | _=>.no
theorem iRng2_at {a:Fv} {ρ:Rho}:zBj a ρ=(a ρ).bind zNp:=rfl
theorem fn_at {p n:Nat} {b:Sv} {ds:List D} (h:ds.length=p):fn p n b ds=(b (start n ds)).bind fin:=by
 unfold fn;rw [if_pos h]
theorem nr {α:Sort _} {a b:α} (h:a=b):a=b:=h
theorem okb {α β:Type} {a:α} {f:α->Res β}:(Res.ok a).bind f=f a:=nr rfl
theorem erb {α β:Type} {c:Str} {f:α->Res β}:(Res.err c).bind f=.err c:=nr rfl
theorem seqF_nx {b:Sv} {ρ:Rho}:zEi b (.nx ρ)=b ρ:=nr rfl
theorem seqF_ret {b:Sv} {r:Rt}:zEi b (.ret r)=.ok (.ret r):=nr rfl
theorem gtF_t {gs:List D->Rho->Res Rho} {ρ:Rho} {ds:List D}:gtF gs ρ (.tup ds)=gs ds ρ:=nr rfl
theorem ifF_t {a b:Sv} {ρ:Rho}:ifF a b ρ true=a ρ:=nr rfl
theorem ifF_f {a b:Sv} {ρ:Rho}:ifF a b ρ false=b ρ:=nr rfl
theorem eifF_t {a b:Ev} {ρ:Rho}:zOm a b ρ true=a ρ:=nr rfl
theorem eifF_f {a b:Ev} {ρ:Rho}:zOm a b ρ false=b ρ:=nr rfl
theorem andF_t {b:Ev} {ρ:Rho}:zOa b ρ (.bl true)=b ρ:=nr rfl
theorem andF_f {b:Ev} {ρ:Rho}:zOa b ρ (.bl false)=.ok (.bl false):=nr rfl
theorem orF_t {b:Ev} {ρ:Rho}:orF b ρ (.bl true)=.ok (.bl true):=nr rfl
theorem orF_f {b:Ev} {ρ:Rho}:orF b ρ (.bl false)=b ρ:=nr rfl
theorem tandF_t {u:Tv} {ρ:Rho}:zKg u ρ true=u ρ:=nr rfl
theorem tandF_f {u:Tv} {ρ:Rho}:zKg u ρ false=.ok false:=nr rfl
theorem torF_t {u:Tv} {ρ:Rho}:zOn u ρ true=.ok true:=nr rfl
theorem torF_f {u:Tv} {ρ:Rho}:zOn u ρ false=u ρ:=nr rfl
theorem oAdd_i {i j:Int}:zHk (.int i) (.int j)=.ok (.int (i+j)):=rfl
theorem oAddI_i {i j:Int}:zCb (.int i) (.int j)=.ok (.int (i+j)):=rfl
theorem oSub_i {i j:Int}:sD (.int i) (.int j)=.ok (.int (i - j)):=rfl
theorem oMul_i {i j:Int} (h:iP i j=true):oV (.int i) (.int j)=.ok (.int (i * j)):=if_pos h
theorem oDiv_i {i j:Int} (h:kF j=true):zHs (.int i) (.int j)=.ok (.int (i.fdiv j)):=if_pos h
theorem oMod_i {i j:Int} (h:j≠0):zEs (.int i) (.int j)=.ok (.int (i.fmod j)):=if_pos h
theorem oPow_i {i j:Int} (h:sX i j=true):zLA (.int i) (.int j)=.ok (.int (i^j.toNat)):=if_pos h
theorem oEq_i {i j:Int}:oEq (.int i) (.int j)=.ok (.bl (decide (i=j))):=rfl
theorem oNe_i {i j:Int}:oNe (.int i) (.int j)=.ok (.bl (!decide (i=j))):=rfl
theorem oLt_i {i j:Int}:oLt (.int i) (.int j)=.ok (.bl (decide (i < j))):=rfl
theorem oLe_i {i j:Int}:oLe (.int i) (.int j)=.ok (.bl (decide (i<=j))):=rfl
theorem oGt_i {i j:Int}:oGt (.int i) (.int j)=.ok (.bl (decide (j < i))):=rfl
theorem oGe_i {i j:Int}:oGe (.int i) (.int j)=.ok (.bl (decide (j<=i))):=rfl
theorem zLO {ds:List D} {i:Int}:oIx (.lst ds) (.int i)=ofO (atD ds i):=rfl
theorem ofO_some {α:Type} {a:α}:ofO (some a)=.ok a:=rfl
theorem oNeg_i {i:Int}:zHo (.int i)=.ok (.int (-i)):=rfl
theorem oNot_b {b:Bool}:zPU (.bl b)=.ok (.bl (!b)):=rfl
theorem bAbs_i {i:Int}:zJx [.int i]=.ok (.int (i.natAbs:Int)):=by
 show Res.ok (D.int (if i < 0 then -i else i))=_
 congr 2;split<;>omega
theorem bMin_i {i j:Int}:zPJ [.int i,.int j]=.ok (.int (min i j)):=by
 show Res.ok (D.int (if j < i then j else i))=_
 congr 2;split<;>omega
theorem zBr {j:Int} (h1:-(2^62)<=j) (h2:j < 2^62):zMa [.int j]=.ok (rng 0 j.toNat 1):=if_pos ⟨h1,h2⟩
theorem xI {i j:Int} (h1:-(2^62)<=i) (h2:i < 2^62) (h3:-(2^62)<=j) (h4:j < 2^62):zNp [.int i,.int j]=.ok (rng i (j - i).toNat 1):=if_pos ⟨h1,h2,h3,h4⟩
theorem xU {α:Type} {g:Gv} {b:Sv} {ds:List D} {ρ:Rho} {k:Fl->Res α} {Q:Res α->Prop} (P:Rho->Prop) (h0:P ρ)
  (st:∀ d ρ,d∈ds->P ρ->∃ ρ2,(g d ρ).bind b=.ok (.nx ρ2)/\P ρ2) (fi:∀ ρ',P ρ'->Q (k (.nx ρ'))):Q ((eN g b ds ρ).bind k):=by
 suffices h:∃ ρ',eN g b ds ρ=.ok (.nx ρ')/\P ρ' by
  obtain ⟨ρ',e,hp⟩:=h
  rw [e]
  exact fi ρ' hp
 clear fi
 induction ds generalizing ρ with
 | nil=>exact ⟨ρ,rfl,h0⟩
 | cons d ds ih=>
  obtain ⟨ρ2,e,hp⟩:=st d ρ List.mem_cons_self h0
  obtain ⟨ρ',e',hp'⟩:=ih hp fun d' ρ' hd=>st d' ρ' (List.mem_cons_of_mem _ hd)
  refine ⟨ρ',?_,hp'⟩
  rw [eN]
  cases hg:g d ρ with
  | no=>rw [hg] at e;cases e
  | err c=>rw [hg] at e;cases e
  | ok ρ1=>
   rw [hg] at e
   have e2:b ρ1=.ok (.nx ρ2):=e
   simp only [Res.bind,e2]
   exact e'
theorem ty_i {i:Int}:tyN (.int i) = "int" := rfl
theorem ty_b {b:Bool}:tyN (.bl b) = "bool" := rfl
theorem ty_t {ds:List D}:tyN (.tup ds) = "tuple" := rfl
theorem ty_l {ds:List D}:tyN (.lst ds) = "list" := rfl
theorem ty_s {x:Str}:tyN (.str x) = "str" := rfl
theorem ty_n:tyN .non = "NoneType" := rfl
theorem bLen_t {ds:List D}:kP [.tup ds]=.ok (.int ds.length):=rfl
theorem bLen_l {ds:List D}:kP [.lst ds]=.ok (.int ds.length):=rfl
theorem bTup_t {ds:List D}:zIX [.tup ds]=.ok (.tup ds):=rfl
theorem bTup_l {ds:List D}:zIX [.lst ds]=.ok (.tup ds):=rfl
theorem gB {α:Type} {g:Gv} {b:Sv} {ds:List D} {ρ:Rho} {k:Fl->Res α} {Q:Res α->Prop} (P:Nat->Rho->Prop) (h0:P 0 ρ)
  (st:∀ i d ρ,ds[i]?=some d->P i ρ->∃ ρ2,(g d ρ).bind b=.ok (.nx ρ2)/\P (i+1) ρ2) (fi:∀ ρ',P ds.length ρ'->Q (k (.nx ρ'))):Q ((eN g b ds ρ).bind k):=by
 suffices h:∀ (ds:List D) (j:Nat) (ρ:Rho),P j ρ->(∀ i d ρ,ds[i]?=some d->P (j+i) ρ->∃ ρ2,(g d ρ).bind b=.ok (.nx ρ2)/\P (j+i+1) ρ2)->∃ ρ',eN g b ds ρ=.ok (.nx ρ')/\P (j+ds.length) ρ' by
  obtain ⟨ρ',e,hp⟩:=h ds 0 ρ h0 (fun i d ρ hd hp=>by rw [Nat.zero_add] at hp ⊢;exact st i d ρ hd hp)
  rw [e]
  exact fi ρ' (by rw [Nat.zero_add] at hp;exact hp)
 intro ds
 induction ds with
 | nil=>intro j ρ hp _;exact ⟨ρ,rfl,hp⟩
 | cons d ds ih=>
  intro j ρ hp st
  obtain ⟨ρ2,e,hp2⟩:=st 0 d ρ rfl hp
  obtain ⟨ρ',e',hp'⟩:=ih (j+1) ρ2 hp2 fun i d' ρ' hd hp=>by
   have:=st (i+1) d' ρ' (by simpa using hd) (by rw [show j+(i+1)=j+1+i by omega];exact hp)
   rw [show j+(i+1)=j+1+i by omega] at this
   exact this
  refine ⟨ρ',?_,by rw [List.length_cons,show j+(ds.length+1)=j+1+ds.length by omega];exact hp'⟩
  rw [eN]
  cases hg:g d ρ with
  | no=>rw [hg] at e;cases e
  | err c=>rw [hg] at e;cases e
  | ok ρ1=>
   rw [hg] at e
   have e2:b ρ1=.ok (.nx ρ2):=e
   simp only [Res.bind,e2]
   exact e'
theorem vX {lo c:Int} {n i:Nat} {d:D} (h:(rng lo n c)[i]?=some d):i < n/\d=.int (lo+(i:Int) * c):=by
 unfold rng at h
 rw [List.getElem?_map] at h
 by_cases hi:i < n
 ·rw [List.getElem?_range hi] at h
  cases h
  exact ⟨hi,rfl⟩
 ·rw [List.getElem?_eq_none (by rw [List.length_range];omega)] at h
  cases h
theorem zJe {lo c:Int} {n:Nat}:(rng lo n c).length=n:=by unfold rng;rw [List.length_map,List.length_range]
def zCn (t:Tv) (f:Ev) (ρ:Rho) (ds:List D):Res (List D):=if ds.length<=16777215 then gZ t f ρ ds else .no
theorem fComp_at {it:Fv} {t:Tv} {f:Ev} {ρ:Rho}:kK it t f ρ=(it ρ).bind (zCn t f ρ):=rfl
theorem zLo {d:D} (h:dep d<=50):oNe d d=.ok (.bl false):=by unfold oNe;rw [if_pos h,oU];rfl
theorem zEV {d:D} (h:dep d<=50):oEq d d=.ok (.bl true):=by unfold oEq;rw [if_pos h,oU]
theorem zHV {ds:List D} {k:Int} (h:0<=k):jW ds none (some k)=ds.take k.toNat:=by
 unfold jW cut
 simp only [h,if_true,List.drop_zero,Nat.sub_zero]
 rcases Nat.le_total k.toNat ds.length with l | l
 ·rw [Nat.min_eq_left l]
 ·rw [Nat.min_eq_right l,List.take_length,List.take_of_length_le l]
theorem zHX {α:Type} (l:List α) (a:Nat):l.drop (min a l.length)=l.drop a:=by
 rcases Nat.le_total a l.length with h | h
 ·rw [Nat.min_eq_left h]
 ·rw [Nat.min_eq_right h,List.drop_length,List.drop_eq_nil_of_le h]
theorem zFY {ds:List D} {a b:Int} (h1:0<=a) (h2:0<=b):jW ds (some a) (some b)=(ds.drop a.toNat).take (b.toNat - a.toNat):=by
 unfold jW cut
 simp only [h1,h2,if_true]
 rw [zHX]
 rcases Nat.le_total ds.length a.toNat with c | c
 ·rw [List.drop_eq_nil_of_le c,List.take_nil,List.take_nil]
 ·rw [Nat.min_eq_left c]
  rcases Nat.le_total b.toNat ds.length with d | d
  ·rw [Nat.min_eq_left d]
  ·rw [Nat.min_eq_right d,List.take_of_length_le (by rw [List.length_drop];exact Nat.le_refl _),List.take_of_length_le (by rw [List.length_drop];exact Nat.sub_le_sub_right d _)]
theorem jX {α:Type} {f:α->D} {l:List α} {i:Int} {a:α} (h0:0<=i) (h:l[i.toNat]?=some a):oIx (.lst (l.map f)) (.int i)=.ok (f a):=by
 show ofO (atD (l.map f) i)=_
 unfold atD
 rw [if_pos h0,List.getElem?_map,h]
 rfl
def popS (i:Nat) (ρ:Rho):Option Sl->Res Fl
 | some (.own ds)=>if ds.length=0 then .no else .ok (.nx (ρ.set i (.own ds.dropLast)))
 | _=>.no
theorem sPop_at {i:Nat} {ρ:Rho}:zMA i ρ=popS i ρ ρ[i]?:=by unfold zMA popS;rfl
theorem oIx_tc {d:D} {ds:List D} {i:Int}:oIx (.tup (d::ds)) (.int i)=ofO (atD (d::ds) i):=rfl
theorem fM {α:Type} {f:α->D} {l:List α} {i:Int} {a:α} (h0:0<=i) (h:l[i.toNat]?=some a):oIx (.tup (l.map f)) (.int i)=.ok (f a):=by
 show ofO (atD (l.map f) i)=_
 unfold atD
 rw [if_pos h0,List.getElem?_map,h]
 rfl
theorem zIY {α:Type} {f:α->D} {l:List α} {k:Nat} {a:α} (h0:0 < k) (h:k<=l.length) (h2:l[l.length - k]?=some a):atD (l.map f) (-(k:Int))=some (f a):=by
 unfold atD
 rw [if_neg (by omega),List.length_map,if_pos (by omega),show ((l.length:Int)+-(k:Int)).toNat=l.length - k by omega,List.getElem?_map,h2]
 rfl
theorem wO {α:Type} {f:α->D} {l:List α} {k:Nat} {i:Int} {a:α} (hi:i=-(k:Int)) (h0:0 < k) (h:k<=l.length) (h2:l[l.length - k]?=some a):oIx (.lst (l.map f)) (.int i)=.ok (f a):=by
 show ofO (atD (l.map f) i)=_
 rw [hi,zIY h0 h h2]
 rfl
theorem zHd {α:Type} {f:α->D} {l:List α} {k:Nat} {i:Int} {a:α} (hi:i=-(k:Int)) (h0:0 < k) (h:k<=l.length) (h2:l[l.length - k]?=some a):oIx (.tup (l.map f)) (.int i)=.ok (f a):=by
 show ofO (atD (l.map f) i)=_
 rw [hi,zIY h0 h h2]
 rfl
theorem zGP {α:Type} {g:Gv} {b:Sv} {ds:List D} {ρ:Rho} {k:Fl->Res α} {Q:Res α->Prop} (P:Nat->Rho->Prop) (h0:P 0 ρ)
  (st:∀ i d ρ,ds[i]?=some d->P i ρ->(∃ ρ2,(g d ρ).bind b=.ok (.nx ρ2)/\P (i+1) ρ2)∨∃ r,(g d ρ).bind b=.ok (.ret r)/\Q (k (.ret r))) (fi:∀ ρ',P ds.length ρ'->Q (k (.nx ρ'))):Q ((eN g b ds ρ).bind k):=by
 suffices h:∀ (ds:List D) (j:Nat) (ρ:Rho),P j ρ->(∀ i d ρ,ds[i]?=some d->P (j+i) ρ->(∃ ρ2,(g d ρ).bind b=.ok (.nx ρ2)/\P (j+i+1) ρ2)∨∃ r,(g d ρ).bind b=.ok (.ret r)/\Q (k (.ret r)))->(∃ ρ',eN g b ds ρ=.ok (.nx ρ')/\P (j+ds.length) ρ')∨∃ r,eN g b ds ρ=.ok (.ret r)/\Q (k (.ret r)) by
  rcases h ds 0 ρ h0 (fun i d ρ hd hp=>by rw [Nat.zero_add] at hp ⊢;exact st i d ρ hd hp) with ⟨ρ',e,hp⟩ | ⟨r,e,hq⟩
  ·rw [e]
   exact fi ρ' (by rw [Nat.zero_add] at hp;exact hp)
  ·rw [e]
   exact hq
 intro ds
 induction ds with
 | nil=>intro j ρ hp _;exact .inl ⟨ρ,rfl,hp⟩
 | cons d ds ih=>
  intro j ρ hp st
  rcases st 0 d ρ rfl hp with ⟨ρ2,e,hp2⟩ | ⟨r,e,hq⟩
  ·have e3:eN g b (d::ds) ρ=eN g b ds ρ2:=by
    rw [eN]
    cases hg:g d ρ with
    | no=>rw [hg] at e;cases e
    | err c=>rw [hg] at e;cases e
    | ok ρ1=>
     rw [hg] at e
     have e2:b ρ1=.ok (.nx ρ2):=e
     simp only [Res.bind,e2]
   rw [e3]
   rcases ih (j+1) ρ2 hp2 (fun i d' ρ' hd hp=>by
    have:=st (i+1) d' ρ' (by simpa using hd) (by rw [show j+(i+1)=j+1+i by omega];exact hp)
    rw [show j+(i+1)=j+1+i by omega] at this
    exact this) with ⟨ρ',e',hp'⟩ | h
   ·exact .inl ⟨ρ',e',by rw [List.length_cons,show j+(ds.length+1)=j+1+ds.length by omega];exact hp'⟩
   ·exact .inr h
  ·refine .inr ⟨r,?_,hq⟩
   rw [eN]
   cases hg:g d ρ with
   | no=>rw [hg] at e;cases e
   | err c=>rw [hg] at e;cases e
   | ok ρ1=>
    rw [hg] at e
    have e2:b ρ1=.ok (.ret r):=e
    simp only [Res.bind,e2]
def zOM (ds:List D):D->Res (List D)
 | .int k=>if 0<=k/\k < 2^62/\ds.length * k.toNat<=16777216 then .ok (List.replicate k.toNat ds).flatten else .no
 | _=>.no
def repF (g:Ev) (ρ:Rho) (ds:List D):Res (List D):=(g ρ).bind (zOM ds)
theorem fRep_at {f:Fv} {g:Ev} {ρ:Rho}:zKx f g ρ=(f ρ).bind (repF g ρ):=by
 unfold zKx repF;congr
theorem zDg {d:D} {k:Nat} (h:k<=16777216):zOM [d] (.int (k:Int))=.ok (List.replicate k d):=by
 have e:∀ n,(List.replicate n [d]).flatten=List.replicate n d:=by
  intro n
  induction n with
  | zero=>rfl
  | succ n ih=>rw [List.replicate_succ,List.flatten_cons,ih];rfl
 unfold zOM
 dsimp only
 rw [if_pos ⟨by omega,by omega,by simp only [List.length_cons,List.length_nil,Int.toNat_natCast];omega⟩,Int.toNat_natCast,e]
theorem zFq {α:Type} {u:α->D} {f:Ev} {ρ:Rho} {g:α->D}:∀ {l:List α},(∀ a∈l,f (ρ++[.val (u a)])=.ok (g a))->gZ jT f ρ (l.map u)=.ok (l.map g)
 | [],_=>rfl
 | a::l,h=>by
  rw [List.map_cons,gZ,h a List.mem_cons_self]
  simp only [jT,noErr,Res.bind,if_true]
  rw [zFq fun b hb=>h b (List.mem_cons_of_mem _ hb)]
  rfl
theorem eS {α:Type} {u:α->D} {f:Ev} {ρ:Rho} {g:α->D} {l:List α} (hl:l.length<=16777215) (h:∀ a∈l,f (ρ++[.val (u a)])=.ok (g a)):zCn jT f ρ (l.map u)=.ok (l.map g):=by
 unfold zCn;rw [if_pos (by rw [List.length_map];exact hl),zFq h]
def zOU:D->Res (List D)
 | .tup ds=>.ok ds.reverse
 | _=>.no
theorem revD_t {ds:List D}:zOU (.tup ds)=.ok ds.reverse:=rfl
theorem iRev_at {e:Ev} {ρ:Rho}:zNS e ρ=(e ρ).bind zOU:=by
 unfold zNS;congr
theorem bSum_l {ns:List Int}:zBm [.lst (ns.map D.int)]=.ok (.int ns.sum):=by
 have e:∀ ns:List Int,qM (ns.map D.int)=some ns:=by
  intro ns
  induction ns with
  | nil=>rfl
  | cons i ns ih=>rw [List.map_cons,qM,ih]
 show (match qM (ns.map D.int) with | some ns=>Res.ok (D.int ns.sum) | none=>.no)=_
 rw [e]
theorem bSum_t {ns:List Int}:zBm [.tup (ns.map D.int)]=.ok (.int ns.sum):=by
 have e:∀ ns:List Int,qM (ns.map D.int)=some ns:=by
  intro ns
  induction ns with
  | nil=>rfl
  | cons i ns ih=>rw [List.map_cons,qM,ih]
 show (match qM (ns.map D.int) with | some ns=>Res.ok (D.int ns.sum) | none=>.no)=_
 rw [e]
def slI (i:Nat) (ρ:Rho):Int:=match ρ[i]? with
 | some (.val (.int x))=>x
 | _=>0
theorem chO_s {c:Nat}:chO (some c)=.ok (.str ⟨#[c]⟩):=rfl
theorem zMH {x:Str}:dep (.str x)<=50:=by simp [dep]
theorem oEq_s {x y:Str}:oEq (.str x) (.str y)=.ok (.bl (x==y)):=by
 unfold oEq;rw [if_pos zMH,eqD]
theorem oNe_s {x y:Str}:oNe (.str x) (.str y)=.ok (.bl (!(x==y))):=by
 unfold oNe;rw [if_pos zMH,eqD]
theorem fW {g:Gv} {b:Sv} {d:D} {ds:List D} {ρ ρ1 ρ2:Rho} (hg:g d ρ=.ok ρ1) (hb:b ρ1=.ok (.nx ρ2)):eN g b (d::ds) ρ=eN g b ds ρ2:=by
 rw [eN]
 simp only [hg,Res.bind,hb]
theorem oTabNot_s {T:List (Str×Str)} {x:Str}:oY T (.str x)=.ok (.bl (!(T.lookup x).isSome)):=rfl
def zPm:List D->Res (List D)
 | [x,y]=>match zHn x,zHn y with
  | some xs,some ys=>.ok (iT xs ys)
  | _,_=>.no
 | _=>.no
theorem iZip_at {a:Fv} {ρ:Rho}:zHG a ρ=(a ρ).bind zPm:=by
 unfold zHG;congr
theorem lB {x y:D} {xs ys:List D} (hx:zHn x=some xs) (hy:zHn y=some ys):zPm [x,y]=.ok (iT xs ys):=by
 show (match zHn x,zHn y with | some xs,some ys=>Res.ok (iT xs ys) | _,_=>.no)=_
 rw [hx,hy]
def zGc (f:Ev) (ρ:Rho) (ds:List D):Res (List D):=if ds.length<=16777215 then fE f ρ ds else .no
theorem fComp2_at {it:Fv} {f:Ev} {ρ:Rho}:qI it f ρ=(it ρ).bind (zGc f ρ):=rfl
theorem zCA {α β:Type} {u:α->D} {v:β->D} {f:Ev} {ρ:Rho} {g:α->β->D}:∀ {l:List α} {m:List β},(∀ p∈l.zip m,f (ρ++[.val (u p.1),.val (v p.2)])=.ok (g p.1 p.2))->
  fE f ρ (iT (l.map u) (m.map v))=.ok ((l.zip m).map fun p=>g p.1 p.2)
 | [],m,h=>by cases m<;>rfl
 | a::l,[],h=>rfl
 | a::l,b::m,h=>by
  have h1:=h (a,b) List.mem_cons_self
  have h2:=zCA (l:=l) (m:=m) (u:=u) (v:=v) (g:=g) fun p hp=>h p (List.mem_cons_of_mem _ hp)
  show (noErr (f (ρ++[.val (u a),.val (v b)]))).bind (fun e=>(fE f ρ (iT (l.map u) (m.map v))).bind fun es=>.ok (e::es))=_
  rw [h1,h2]
  rfl
theorem jD {α β:Type} {u:α->D} {v:β->D} {f:Ev} {ρ:Rho} {g:α->β->D} {l:List α} {m:List β} (hl:l.length<=16777215) (h:∀ p∈l.zip m,f (ρ++[.val (u p.1),.val (v p.2)])=.ok (g p.1 p.2)):
  zGc f ρ (iT (l.map u) (m.map v))=.ok ((l.zip m).map fun p=>g p.1 p.2):=by
 unfold zGc
 rw [if_pos,zCA h]
 have:∀ (a b:List D),(iT a b).length<=a.length:=by
  intro a
  induction a with
  | nil=>intro b;cases b<;>exact Nat.le_refl _
  | cons x a ih=>intro b;cases b with
   | nil=>exact Nat.zero_le _
   | cons y b=>exact Nat.succ_le_succ (ih b)
 exact Nat.le_trans (this _ _) (by rw [List.length_map];exact hl)
end L3
namespace Ln
open Fq
abbrev Pt:=Rat×Rat
def asc (a b:Pt):Prop:=a.1 < b.1/\a.2<=b.2
def btw (a b c:Pt):Bool:=decide ((b.2 - a.2) * (c.1 - b.1)=(c.2 - b.2) * (b.1 - a.1))
def push:List Pt->Pt->List Pt
 | b::a::s,c=>if btw a b c=true then c::a::s else c::b::a::s
 | s,c=>c::s
theorem zEl {s:List Pt} {c:Pt} (h:¬ 1 < s.length):push s c=c::s:=by
 match s,h with
 | [],_=>rfl
 | [b],_=>rfl
 | b::a::s,h=>exact absurd (show 1 < s.length+2 by omega) h
def lS (ps:List Pt):List Pt:=(ps.foldl push []).reverse
def few:Pt->List Pt->List Pt
 | _,[]=>[]
 | _,[b]=>[b]
 | a,b::c::r=>if btw a b c=true then few b (c::r) else b::few b (c::r)
def kB:List Pt->List Pt
 | []=>[]
 | a::r=>a::few a r
def dir (a p b:Pt):Prop:=a.1 < b.1/\p.1 < b.1/\(b.2 - a.2) * (b.1 - p.1)=(b.2 - p.2) * (b.1 - a.1)
theorem lH {x a b:Rat} (h:x≠0) (e:a * x=b * x):a=b:=by
 have:a * x * x⁻¹=b * x * x⁻¹:=by rw [e]
 rw [Rat.mul_assoc,Rat.mul_assoc,Rat.mul_inv_cancel _ h,Rat.mul_one,Rat.mul_one] at this
 exact this
theorem sJ {a p b c:Pt} (h:dir a p b):btw a b c=btw p b c:=by
 obtain ⟨h1,h2,h3⟩:=h
 unfold btw
 have n1:b.1 - a.1≠0:=by grind
 have n2:b.1 - p.1≠0:=by grind
 congr 1
 apply propext
 constructor
 ·intro e
  refine lH n1 ?_
  grind
 ·intro e
  refine lH n2 ?_
  grind
theorem zBY {a b c:Pt} (h:a.1 < b.1) (k:b.1 < c.1) (e:btw a b c=true):dir a b c:=by
 have e:=of_decide_eq_true e
 refine ⟨by grind,k,?_⟩
 grind
theorem xQ:∀ (r:List Pt) (p b a:Pt) (s:List Pt),dir a p b->(b::r).Pairwise asc->(r.foldl push (b::a::s)).reverse=(a::s).reverse++few p (b::r)
 | [],p,b,a,s,_,_=>by simp [few]
 | c::r,p,b,a,s,h,hp=>by
  have hbc:asc b c:=(List.pairwise_cons.mp hp).1 c List.mem_cons_self
  have hr:=(List.pairwise_cons.mp hp).2
  rw [List.foldl_cons,push,few,sJ h]
  by_cases e:btw p b c=true
  ·rw [if_pos e,if_pos e]
   exact xQ r b c a s (zBY h.1 hbc.1 (by rw [sJ h];exact e)) hr
  ·rw [if_neg e,if_neg e,xQ r b c b (a::s) ⟨hbc.1,hbc.1,rfl⟩ hr]
   simp
theorem oE {ps:List Pt} (h:ps.Pairwise asc):lS ps=kB ps:=by
 unfold lS
 match ps,h with
 | [],_=>rfl
 | [a],_=>rfl
 | a::b::r,h=>
  have hab:=(List.pairwise_cons.mp h).1 b List.mem_cons_self
  show (r.foldl push [b,a]).reverse=_
  rw [xQ r a b a [] ⟨hab.1,hab.1,rfl⟩ (List.pairwise_cons.mp h).2]
  rfl
theorem zCf:∀ (r:List Pt) (a:Pt),(few a r).Sublist r
 | [],_=>List.Sublist.slnil
 | [b],_=>List.Sublist.refl _
 | b::c::r,a=>by
  rw [few]
  split
  ·exact (zCf (c::r) b).cons b
  ·exact (zCf (c::r) b).cons₂ b
theorem wC (ps:List Pt):(kB ps).Sublist ps:=by
 cases ps with
 | nil=>exact List.Sublist.slnil
 | cons a r=>exact (zCf r a).cons₂ a
theorem zDD:∀ (r:List Pt) (a:Pt),(few a r).getLast?=r.getLast?
 | [],_=>rfl
 | [b],_=>rfl
 | b::c::r,a=>by
  have ih:=zDD (c::r) b
  rw [few]
  split
  ·rw [ih];rfl
  ·rw [List.getLast?_cons,ih]
   simp [List.getLast?_cons]
theorem zBM (ps:List Pt):(kB ps).getLast?=ps.getLast?:=by
 cases ps with
 | nil=>rfl
 | cons a r=>rw [kB,List.getLast?_cons,zDD,List.getLast?_cons]
def zCM:List Pt->Prop
 | a::b::c::r=>btw a b c=false/\zCM (b::c::r)
 | _=>True
theorem zDu:∀ (r:List Pt) (a:Pt),zCM (a::r)->few a r=r
 | [],_,_=>rfl
 | [b],_,_=>rfl
 | b::c::r,a,h=>by
  rw [few,h.1,zDu (c::r) b h.2]
  rfl
theorem zBW {ps:List Pt} (h:zCM ps):kB ps=ps:=by
 cases ps with
 | nil=>rfl
 | cons a r=>rw [kB,zDu r a h]
theorem zCY:∀ (r:List Pt) (p b:Pt),(p::b::r).Pairwise asc->∃ d t,few p (b::r)=d::t/\b.1<=d.1/\(d.2 - p.2) * (b.1 - p.1)=(b.2 - p.2) * (d.1 - p.1)
 | [],p,b,_=>⟨b,[],rfl,Rat.le_refl,rfl⟩
 | c::r,p,b,h=>by
  have h1:=List.pairwise_cons.mp h
  have h2:=List.pairwise_cons.mp h1.2
  have pb:=h1.1 b List.mem_cons_self
  have bc:=h2.1 c List.mem_cons_self
  rw [few]
  by_cases e:btw p b c=true
  ·rw [if_pos e]
   obtain ⟨d,t,e1,l,e2⟩:=zCY r b c h1.2
   have e3:=of_decide_eq_true e
   refine ⟨d,t,e1,by grind [asc],?_⟩
   have n:c.1 - b.1≠0:=by grind [asc]
   refine lH n ?_
   have e4:(d.2 - b.2) * (b.1 - p.1)=(b.2 - p.2) * (d.1 - b.1):=by
    refine lH n ?_
    grind
   grind
  ·rw [if_neg e]
   exact ⟨b,_,rfl,Rat.le_refl,rfl⟩
theorem xK:∀ (r:List Pt) (a p b:Pt),dir a p b->(b::r).Pairwise asc->(p::b::r).Pairwise asc->zCM (a::few p (b::r))
 | [],a,p,b,_,_,_=>by simp [few,zCM]
 | c::r,a,p,b,h,hb,hp=>by
  have bc:=(List.pairwise_cons.mp hb).1 c List.mem_cons_self
  have hc:=(List.pairwise_cons.mp hb).2
  rw [few]
  by_cases e:btw p b c=true
  ·rw [if_pos e]
   exact xK r a b c (zBY h.1 bc.1 (by rw [sJ h];exact e)) hc hb
  ·rw [if_neg e]
   have ih:=xK r b b c ⟨bc.1,bc.1,rfl⟩ hc hb
   obtain ⟨d,t,e1,l,e2⟩:=zCY r b c hb
   rw [e1] at ih ⊢
   refine ⟨?_,ih⟩
   rw [sJ h]
   rw [Bool.eq_false_iff]
   intro z
   apply e
   have z:=of_decide_eq_true z
   refine decide_eq_true ?_
   have n:d.1 - b.1≠0:=by grind [asc]
   refine lH n ?_
   grind
theorem zCi {ps:List Pt} (h:ps.Pairwise asc):zCM (kB ps):=by
 match ps,h with
 | [],_=>trivial
 | [a],_=>trivial
 | a::b::r,h=>
  have hab:=(List.pairwise_cons.mp h).1 b List.mem_cons_self
  exact xK r a a b ⟨hab.1,hab.1,rfl⟩ (List.pairwise_cons.mp h).2 h
def Ok (ps:List Pt):Prop:=ps.head?=some (0,0)/\ps.Pairwise asc
def zHZ (ps:List Pt):Prop:=Ok ps/\zCM ps
theorem zBO {ps:List Pt} (h:Ok ps):zHZ (lS ps):=by
 rw [oE h.2]
 refine ⟨⟨?_,h.2.sublist (wC ps)⟩,zCi h.2⟩
 obtain ⟨h,_⟩:=h
 cases ps with
 | nil=>cases h
 | cons a r=>exact h
theorem qK {ps:List Pt} (h:ps.Pairwise asc) {i j:Nat} {a b:Pt} (l:i < j) (ha:ps[i]?=some a) (hb:ps[j]?=some b):asc a b:=by
 obtain ⟨hi,rfl⟩:=List.getElem?_eq_some_iff.mp ha
 obtain ⟨hj,rfl⟩:=List.getElem?_eq_some_iff.mp hb
 exact List.pairwise_iff_getElem.mp h i j hi hj l
def SzP (n:Nat) (p:Pt):Prop:=Sz n p.1/\Sz n p.2
theorem lt_iff {p q:Rat}:p.num * q.den < q.num * p.den ↔ p < q:=Rat.lt_iff p q |>.symm
def itp (p q:Pt) (x:Rat):Rat:=p.2+(x - p.1) / (q.1 - p.1) * (q.2 - p.2)
def cT:List Pt->Rat->Rat
 | [],_=>0
 | [p],_=>p.2
 | p::q::r,x=>if x<=q.1 then itp p q x else cT (q::r) x
theorem zMP (p q:Pt):itp p q p.1=p.2:=by
 unfold itp
 rw [Rat.sub_self,Rat.div_def,Rat.zero_mul,Rat.zero_mul,Rat.add_zero]
theorem zNG {p q:Pt} (h:p.1 < q.1):itp p q q.1=q.2:=by
 unfold itp
 have n:q.1 - p.1≠0:=by grind
 rw [Rat.div_def,Rat.mul_inv_cancel _ n,Rat.one_mul]
 grind
theorem fN:∀ {ps:List Pt},ps.Pairwise asc->∀ {i:Nat} {p:Pt},ps[i]?=some p->cT ps p.1=p.2
 | [],_,i,p,hp=>by cases hp
 | [a],_,i,p,hp=>by
  cases i with
  | zero=>cases hp;rfl
  | succ i=>cases hp
 | a::b::r,h,i,p,hp=>by
  have hab:=(List.pairwise_cons.mp h).1 b List.mem_cons_self
  rw [cT]
  match i,hp with
  | 0,hp=>
   cases hp
   rw [if_pos (Rat.le_of_lt hab.1),zMP]
  | 1,hp=>
   cases hp
   rw [if_pos Rat.le_refl,zNG hab.1]
  | i+2,hp=>
   have hb:asc b p:=qK h (show 1 < i+2 by omega) rfl hp
   rw [if_neg (by have:=hb.1;grind)]
   exact fN (List.pairwise_cons.mp h).2 (i:=i+1) hp
theorem kR:∀ {ps:List Pt},ps.Pairwise asc->∀ {i:Nat} {p q:Pt} {x:Rat},ps[i]?=some p->ps[i+1]?=some q->p.1<=x->x<=q.1->cT ps x=itp p q x
 | [],_,i,p,q,x,hp,_,_,_=>by cases hp
 | [a],_,i,p,q,x,hp,hq,_,_=>by cases hq
 | a::b::r,h,i,p,q,x,hp,hq,h1,h2=>by
  have hab:=(List.pairwise_cons.mp h).1 b List.mem_cons_self
  cases i with
  | zero=>
   cases hp
   cases hq
   rw [cT,if_pos h2]
  | succ i=>
   have hr:=(List.pairwise_cons.mp h).2
   by_cases c:x=p.1
   ·subst c
    rw [zMP]
    exact fN h hp
   ·rw [cT,if_neg]
    ·exact kR hr (i:=i) hp hq h1 h2
    ·intro z
     cases i with
     | zero=>
      cases hp
      exact c (by grind)
     | succ i=>
      have hb:asc b p:=qK h (show 1 < i+1+1 by omega) rfl hp
      have:=hb.1
      grind
def ax:Bool->Pt->Rat
 | false,p=>p.1
 | true,p=>p.2
theorem zCm {ps:List Pt} (h:ps.Pairwise asc) (b:Bool) {i j:Nat} {p q:Pt} (l:i<=j) (hp:ps[i]?=some p) (hq:ps[j]?=some q):ax b p<=ax b q:=by
 rcases Nat.lt_or_eq_of_le l with l | l
 ·have:=qK h l hp hq
  cases b
  ·exact Rat.le_of_lt this.1
  ·exact this.2
 ·subst l
  rw [hp] at hq
  cases hq
  exact Rat.le_refl
theorem zFS:∀ {ps:List Pt} {e:Pt} {x:Rat},ps.Pairwise asc->ps.getLast?=some e->(∀ p,ps.head?=some p->p.1<=x)->x<=e.1->
  (∃ (i:Nat) (p:Pt),ps[i]?=some p/\p.1=x)∨∃ (i:Nat) (p q:Pt),ps[i]?=some p/\ps[i+1]?=some q/\p.1 < x/\x < q.1
 | [],e,x,_,he,_,_=>by cases he
 | [a],e,x,_,he,h0,h1=>by
  cases he
  have:=h0 a rfl
  exact .inl ⟨0,a,rfl,by grind⟩
 | a::b::r,e,x,h,he,h0,h1=>by
  have ha:=h0 a rfl
  by_cases c:a.1=x
  ·exact .inl ⟨0,a,rfl,c⟩
  by_cases d:x < b.1
  ·exact .inr ⟨0,a,b,rfl,rfl,by grind,d⟩
  ·rcases zFS (List.pairwise_cons.mp h).2 (by rw [<-he];simp [List.getLast?_cons]) (fun p hp=>by cases hp;grind) h1 with ⟨i,p,h2,h3⟩ | ⟨i,p,q,h2,h3,h4⟩
   ·exact .inl ⟨i+1,p,h2,h3⟩
   ·exact .inr ⟨i+1,p,q,h2,h3,h4⟩
theorem zDU {a b c:Pt} (h1:a.1 < b.1) (h2:b.1 < c.1) (e:btw a b c=true):(b.2 - a.2) / (b.1 - a.1)=(c.2 - a.2) / (c.1 - a.1)/\(c.2 - b.2) / (c.1 - b.1)=(c.2 - a.2) / (c.1 - a.1):=by
 have e:=of_decide_eq_true e
 have n1:b.1 - a.1≠0:=by grind
 have n2:c.1 - b.1≠0:=by grind
 have n3:c.1 - a.1≠0:=by grind
 have i1:=Rat.mul_inv_cancel _ n1
 have i2:=Rat.mul_inv_cancel _ n2
 have i3:=Rat.mul_inv_cancel _ n3
 rw [Rat.div_def,Rat.div_def,Rat.div_def]
 constructor
 ·refine lH n1 (lH n3 ?_)
  grind
 ·refine lH n2 (lH n3 ?_)
  grind
theorem iZ (p q:Pt) (x:Rat):itp p q x=p.2+(x - p.1) * ((q.2 - p.2) / (q.1 - p.1)):=by
 unfold itp
 rw [Rat.div_def,Rat.div_def]
 grind
theorem zHJ {a b c:Pt} (h1:a.1 < b.1) (h2:b.1 < c.1) (e:btw a b c=true) (x:Rat):itp a b x=itp a c x/\itp b c x=itp a c x:=by
 obtain ⟨s1,s2⟩:=zDU h1 h2 e
 rw [iZ,iZ,iZ,s1,s2]
 refine ⟨rfl,?_⟩
 have n1:b.1 - a.1≠0:=by grind
 have i1:=Rat.mul_inv_cancel _ n1
 rw [<-s1,Rat.div_def]
 generalize (b.1 - a.1)⁻¹=u at i1
 grind
theorem zHT {a b c:Pt} {r:List Pt} (h1:a.1 < b.1) (h2:b.1 < c.1) (e:btw a b c=true) (x:Rat):cT (a::b::c::r) x=cT (a::c::r) x:=by
 obtain ⟨e1,e2⟩:=zHJ h1 h2 e x
 rw [cT,cT,cT,e1,e2]
 by_cases c1:x<=b.1
 ·rw [if_pos c1,if_pos (by grind)]
 ·rw [if_neg c1]
theorem zBu:∀ (r:List Pt) (a p b:Pt) (x:Rat),dir a p b->(b::r).Pairwise asc->cT (a::few p (b::r)) x=cT (a::b::r) x
 | [],a,p,b,x,_,_=>rfl
 | c::r,a,p,b,x,h,hb=>by
  have bc:=(List.pairwise_cons.mp hb).1 c List.mem_cons_self
  have hc:=(List.pairwise_cons.mp hb).2
  rw [few]
  by_cases e:btw p b c=true
  ·have e':btw a b c=true:=by rw [sJ h];exact e
   rw [if_pos e,zBu r a b c x (zBY h.1 bc.1 e') hc,zHT h.1 bc.1 e']
  ·show _=(if x<=b.1 then itp a b x else cT (b::c::r) x)
   rw [if_neg e,cT,zBu r b b c x ⟨bc.1,bc.1,rfl⟩ hc]
theorem zDY {ps:List Pt} (h:ps.Pairwise asc) (x:Rat):cT (lS ps) x=cT ps x:=by
 rw [oE h]
 match ps,h with
 | [],_=>rfl
 | [a],_=>rfl
 | a::b::r,h=>
  have hab:=(List.pairwise_cons.mp h).1 b List.mem_cons_self
  exact zBu r a a b x ⟨hab.1,hab.1,rfl⟩ (List.pairwise_cons.mp h).2
theorem zBL {ps:List Pt} (h:ps.Pairwise asc):(lS ps).getLast?=ps.getLast?:=by rw [oE h,zBM]
theorem vZ {ps:List Pt} (h:ps.Pairwise asc):(lS ps).Sublist ps:=by rw [oE h];exact wC ps
theorem lO {a p:Pt} {r:List Pt} (h:(a::p::r).Pairwise asc) {x:Rat} (hx:p.1<=x):cT (a::p::r) x=cT (p::r) x:=by
 have hp:=(List.pairwise_cons.mp h).2
 have ap:=(List.pairwise_cons.mp h).1 p List.mem_cons_self
 rw [cT]
 by_cases c:x<=p.1
 ·have e:x=p.1:=by grind
  rw [if_pos c,e,zNG ap.1]
  exact (fN hp (i:=0) rfl).symm
 ·rw [if_neg c]
theorem zAb {a p q e f:Pt} {r s:List Pt} (hr:(a::p::r).Pairwise asc) (hs:(a::q::s).Pairwise asc) (br:zCM (a::p::r)) (er:(a::p::r).getLast?=some e) (es:(a::q::s).getLast?=some f) (ef:e.1=f.1)
  (hv:∀ x,a.1<=x->x<=e.1->cT (a::p::r) x=cT (a::q::s) x):¬ p.1 < q.1:=by
 intro l
 have ap:=(List.pairwise_cons.mp hr).1 p List.mem_cons_self
 have aq:=(List.pairwise_cons.mp hs).1 q List.mem_cons_self
 have qf:q.1<=f.1:=by
  rw [List.getLast?_eq_getElem?] at es
  exact zCm hs false (i:=1) (show 1<=(a::q::s).length - 1 by simp) rfl es
 cases r with
 | nil=>
  cases er
  have:p.1=f.1:=ef
  grind
 | cons u r=>
  have hp:=(List.pairwise_cons.mp hr).2
  have pu:=(List.pairwise_cons.mp hp).1 u List.mem_cons_self
  have ue:u.1<=e.1:=by
   rw [List.getLast?_eq_getElem?] at er
   exact zCm hr false (i:=2) (show 2<=(a::p::u::r).length - 1 by simp) rfl er
  have key:∀ x,p.1 < x->x<=u.1->x<=q.1->btw a p u=true:=by
   intro x h1 h2 h3
   have v1:=hv p.1 (Rat.le_of_lt ap.1) (by grind)
   have v2:=hv x (by have:=ap.1;grind) (by grind)
   rw [lO hr Rat.le_refl,fN hp (i:=0) rfl,cT,if_pos (Rat.le_of_lt l)] at v1
   rw [lO hr (Rat.le_of_lt h1),cT,if_pos h2,cT,if_pos h3] at v2
   rw [iZ] at v1
   rw [iZ,iZ] at v2
   generalize (q.2 - a.2) / (q.1 - a.1)=k at v1 v2
   have n1:x - p.1≠0:=by grind
   have n2:u.1 - p.1≠0:=by have:=pu.1;grind
   have i2:=Rat.mul_inv_cancel _ n2
   rw [Rat.div_def] at v2
   generalize (u.1 - p.1)⁻¹=w at i2 v2
   have s1:(u.2 - p.2) * w=k:=by
    refine lH n1 ?_
    grind
   refine decide_eq_true ?_
   have s2:u.2 - p.2=k * (u.1 - p.1):=by
    have:(u.2 - p.2) * w * (u.1 - p.1)=k * (u.1 - p.1):=by rw [s1]
    grind
   grind
  have nb:=br.1
  by_cases c:u.1<=q.1
  ·rw [key u.1 pu.1 Rat.le_refl c] at nb
   cases nb
  ·rw [key q.1 l (by grind) Rat.le_refl] at nb
   cases nb
theorem zCy:∀ (r s:List Pt) (a e f:Pt),(a::r).Pairwise asc->(a::s).Pairwise asc->zCM (a::r)->zCM (a::s)->(a::r).getLast?=some e->(a::s).getLast?=some f->e.1=f.1->
  (∀ x,a.1<=x->x<=e.1->cT (a::r) x=cT (a::s) x)->r=s
 | [],[],_,_,_,_,_,_,_,_,_,_,_=>rfl
 | [],q::s,a,e,f,_,hs,_,_,er,es,ef,_=>by
  cases er
  rw [List.getLast?_eq_getElem?] at es
  have:=(qK hs (i:=0) (show 0 < (a::q::s).length - 1 by simp) rfl es).1
  grind
 | p::r,[],a,e,f,hr,_,_,_,er,es,ef,_=>by
  cases es
  rw [List.getLast?_eq_getElem?] at er
  have:=(qK hr (i:=0) (show 0 < (a::p::r).length - 1 by simp) rfl er).1
  grind
 | p::r,q::s,a,e,f,hr,hs,br,bs,er,es,ef,hv=>by
  have n1:=zAb hr hs br er es ef hv
  have n2:=zAb hs hr bs es er ef.symm fun x h1 h2=>(hv x h1 (by rw [ef];exact h2)).symm
  have pq:p.1=q.1:=by grind
  have hp:=(List.pairwise_cons.mp hr).2
  have hq:=(List.pairwise_cons.mp hs).2
  have ap:=(List.pairwise_cons.mp hr).1 p List.mem_cons_self
  have pe:p.1<=e.1:=by
   have er':=er
   rw [List.getLast?_eq_getElem?] at er'
   exact zCm hr false (i:=1) (show 1<=(a::p::r).length - 1 by simp) rfl er'
  have v:=hv p.1 (Rat.le_of_lt ap.1) pe
  rw [lO hr Rat.le_refl,fN hp (i:=0) rfl,lO hs (show q.1<=p.1 by grind),pq,fN hq (i:=0) rfl] at v
  have e1:p=q:=Prod.ext pq v
  subst e1
  have br':zCM (p::r):=by
   cases r with
   | nil=>trivial
   | cons u r=>exact br.2
  have bs':zCM (p::s):=by
   cases s with
   | nil=>trivial
   | cons u s=>exact bs.2
  rw [zCy r s p e f hp hq br' bs' (by rw [<-er];simp [List.getLast?_cons]) (by rw [<-es];simp [List.getLast?_cons]) ef fun x h1 h2=>by
   have:=hv x (by have:=ap.1;grind) h2
   rw [lO hr h1,lO hs h1] at this
   exact this]
theorem zFC {ps qs:List Pt} {e f:Pt} (hp:zHZ ps) (hq:zHZ qs) (he:ps.getLast?=some e) (hf:qs.getLast?=some f) (ef:e.1=f.1) (hv:∀ x,0<=x->x<=e.1->cT ps x=cT qs x):ps=qs:=by
 cases ps with
 | nil=>cases he
 | cons a r=>
  cases qs with
  | nil=>cases hf
  | cons b s=>
   have h1:=hp.1.1
   have h2:=hq.1.1
   cases h1
   cases h2
   rw [zCy r s (0,0) e f hp.1.2 hq.1.2 hp.2 hq.2 he hf ef hv]
def trn (ps:List Pt) (e:Pt):List Pt:=ps.reverse.map fun p=>(e.1 - p.1,e.2 - p.2)
theorem zIF {ps:List Pt} {e:Pt} (h:ps.head?=some (0,0)):(trn ps e).getLast?=some e:=by
 unfold trn
 rw [List.getLast?_map,List.getLast?_reverse,h]
 show some (e.1 - 0,e.2 - 0)=some e
 rw [show e.1 - 0=e.1 by grind,show e.2 - 0=e.2 by grind]
theorem zCK:∀ {ps:List Pt},zCM ps->∀ {i:Nat} {a b c:Pt},ps[i]?=some a->ps[i+1]?=some b->ps[i+2]?=some c->btw a b c=false
 | [],_,i,a,b,c,h,_,_=>by cases h
 | [x],_,i,a,b,c,_,h,_=>by cases h
 | [x,y],_,i,a,b,c,_,_,h=>by
  have:=(List.getElem?_eq_some_iff.mp h).1
  simp at this
  omega
 | x::y::z::r,h,0,a,b,c,h1,h2,h3=>by
  cases h1
  cases h2
  cases h3
  exact h.1
 | x::y::z::r,h,i+1,a,b,c,h1,h2,h3=>zCK (ps:=y::z::r) h.2 (i:=i) h1 h2 h3
theorem zGO:∀ {ps:List Pt},(∀ (i:Nat) (a b c:Pt),ps[i]?=some a->ps[i+1]?=some b->ps[i+2]?=some c->btw a b c=false)->zCM ps
 | [],_=>trivial
 | [x],_=>trivial
 | [x,y],_=>trivial
 | x::y::z::r,h=>⟨h 0 x y z rfl rfl rfl,zGO fun i a b c h1 h2 h3=>h (i+1) a b c h1 h2 h3⟩
theorem zGT {ps:List Pt} {e p:Pt} {i:Nat} (h:ps[i]?=some p):(trn ps e)[ps.length - 1 - i]?=some (e.1 - p.1,e.2 - p.2):=by
 have hi:=(List.getElem?_eq_some_iff.mp h).1
 unfold trn
 rw [List.getElem?_map,List.getElem?_reverse (by omega),show ps.length - 1 - (ps.length - 1 - i)=i by omega,h]
 rfl
theorem zA {ps:List Pt} {e u:Pt} {i:Nat} (h:(trn ps e)[i]?=some u):i < ps.length/\∃ p,ps[ps.length - 1 - i]?=some p/\u=(e.1 - p.1,e.2 - p.2):=by
 unfold trn at h
 rw [List.getElem?_map] at h
 cases hp:ps.reverse[i]? with
 | none=>rw [hp] at h;cases h
 | some p=>
  rw [hp] at h
  cases h
  have hi:=(List.getElem?_eq_some_iff.mp hp).1
  rw [List.length_reverse] at hi
  rw [List.getElem?_reverse hi] at hp
  exact ⟨hi,p,hp,rfl⟩
theorem zCR {ps:List Pt} {e:Pt} (h:zHZ ps) (he:ps.getLast?=some e):zHZ (trn ps e):=by
 refine ⟨⟨?_,?_⟩,?_⟩
 ·unfold trn
  rw [List.head?_map,List.head?_reverse,he]
  show some (e.1 - e.1,e.2 - e.2)=_
  rw [Rat.sub_self,Rat.sub_self]
 ·unfold trn
  refine List.pairwise_map.mpr (List.pairwise_reverse.mpr (h.1.2.imp fun {a b} hab=>?_))
  exact ⟨by show e.1 - b.1 < e.1 - a.1;have:=hab.1;grind,by show e.2 - b.2<=e.2 - a.2;have:=hab.2;grind⟩
 ·refine zGO fun i a b c h1 h2 h3=>?_
  obtain ⟨l1,p,hp,rfl⟩:=zA h1
  obtain ⟨l2,q,hq,rfl⟩:=zA h2
  obtain ⟨l3,r,hr,rfl⟩:=zA h3
  have nb:=zCK h.2 (i:=ps.length - 1 - (i+2)) hr (by rw [show ps.length - 1 - (i+2)+1=ps.length - 1 - (i+1) by omega];exact hq) (by rw [show ps.length - 1 - (i+2)+2=ps.length - 1 - i by omega];exact hp)
  have nb:=of_decide_eq_false nb
  refine decide_eq_false fun z=>nb ?_
  grind
theorem zKZ {ps:List Pt} {e:Pt} (h:zHZ ps) (he:ps.getLast?=some e) {x:Rat} (h0:0<=x) (h1:x<=e.1):cT (trn ps e) x=e.2 - cT ps (e.1 - x):=by
 have ht:=(zCR h he).1.2
 rcases zFS h.1.2 he (x:=e.1 - x) (fun p hp=>by rw [h.1.1] at hp;cases hp;show (0:Rat)<=e.1 - x;grind) (by grind) with ⟨i,p,ip,ep⟩ | ⟨i,p,q,ip,iq,lp,lq⟩
 ·have:=fN ht (zGT (e:=e) ip)
  rw [show x=(e.1 - p.1,e.2 - p.2).1 by show x=e.1 - p.1;grind,this,show e.1 - (e.1 - p.1,e.2 - p.2).1=p.1 by show e.1 - (e.1 - p.1)=p.1;grind,fN h.1.2 ip]
 ·have hi:=(List.getElem?_eq_some_iff.mp iq).1
  have tq:=zGT (e:=e) iq
  have tp:=zGT (e:=e) ip
  rw [show ps.length - 1 - i=ps.length - 1 - (i+1)+1 by omega] at tp
  rw [kR ht tq tp (by show e.1 - q.1<=x;grind) (by show x<=e.1 - p.1;grind),kR h.1.2 ip iq (Rat.le_of_lt lp) (Rat.le_of_lt lq)]
  have pq:=qK h.1.2 (Nat.lt_succ_self i) ip iq
  have n:q.1 - p.1≠0:=by have:=pq.1;grind
  unfold itp
  dsimp only
  rw [show e.1 - p.1 - (e.1 - q.1)=q.1 - p.1 by grind,Rat.div_def,Rat.div_def]
  have i1:=Rat.mul_inv_cancel _ n
  generalize (q.1 - p.1)⁻¹=w at i1
  grind
end Ln
namespace L3
open PySem PySem.Spec PyProof.Rows L2
abbrev St:=L2.St
mutual
inductive IsD (K:PySem.W.Frag) (H:Hp):V->D->Prop where
 | non:IsD K H .non .non
 | bl (b:Bool):IsD K H (.bl b) (.bl b)
 | int (i:Int):IsD K H (.int i) (.int i)
 | str (x:Str):IsD K H (.str x) (.str x)
 | tup {a:Addr} {xs:List V} {ds:List D}:SqT K H a xs->IsDs K H xs ds->IsD K H (.ref a) (.tup ds)
 | lst {a:Addr} {xs:List V} {ds:List D}:SqL K H a xs->IsDs K H xs ds->IsD K H (.ref a) (.lst ds)
inductive IsDs (K:PySem.W.Frag) (H:Hp):List V->List D->Prop where
 | nil:IsDs K H [] []
 | cons {v:V} {d:D} {vs:List V} {ds:List D}:IsD K H v d->IsDs K H vs ds->IsDs K H (v::vs) (d::ds)
end
theorem _root_.L2.Same.rd {H H':Hp} (e:Same H H') {a:Addr} {u:HO} (h:Rd H a u):Rd H' a u:=by
 rcases h with h | ⟨o,h⟩
 ·exact .inl (e _ _ h)
 ·exact .inr ⟨o,e _ _ h⟩
theorem bP {K:PySem.W.Frag} {H H':Hp} (e:Same H H') {a:Addr} {xs:List V} (h:SqT K H a xs):SqT K H' a xs:=h.imp (Same.rd e) id
theorem cK {K:PySem.W.Frag} {H H':Hp} (e:Same H H') {a:Addr} {xs:List V} (h:SqL K H a xs):SqL K H' a xs:=h.imp (Same.rd e) id
section
variable {K:PySem.W.Frag} {H H':Hp}
mutual
theorem IsD.mono (e:Same H H'):∀ {v:V} {d:D},IsD K H v d->IsD K H' v d
 | _,_,.non=>.non
 | _,_,.bl b=>.bl b
 | _,_,.int i=>.int i
 | _,_,.str x=>.str x
 | _,_,.tup h hs=>.tup (bP e h) (IsDs.mono e hs)
 | _,_,.lst h hs=>.lst (cK e h) (IsDs.mono e hs)
theorem IsDs.mono (e:Same H H'):∀ {vs:List V} {ds:List D},IsDs K H vs ds->IsDs K H' vs ds
 | _,_,.nil=>.nil
 | _,_,.cons h hs=>.cons (IsD.mono e h) (IsDs.mono e hs)
end
theorem IsDs.length:∀ {vs:List V} {ds:List D},IsDs K H vs ds->vs.length=ds.length
 | _,_,.nil=>rfl
 | _,_,.cons _ hs=>by rw [List.length_cons,List.length_cons,IsDs.length hs]
theorem IsDs.at:∀ {vs:List V} {ds:List D} {j:Nat} {d:D},IsDs K H vs ds->ds[j]?=some d->∃ v,vs[j]?=some v/\IsD K H v d
 | _,_,_,_,.nil,e=>by simp at e
 | _,_,0,_,.cons r _,e=>by simp at e;subst e;exact ⟨_,rfl,r⟩
 | _,_,j+1,d,.cons _ t,e=>by
  obtain ⟨v,h1,h2⟩:=IsDs.at (j:=j) (d:=d) t (by simpa using e)
  exact ⟨v,by simpa using h1,h2⟩
theorem IsDs.append:∀ {vs ws:List V} {ds es:List D},IsDs K H vs ds->IsDs K H ws es->IsDs K H (vs++ws) (ds++es)
 | _,_,_,_,.nil,s=>s
 | _,_,_,_,.cons r t,s=>.cons r (IsDs.append t s)
theorem IsDs.take:∀ {vs:List V} {ds:List D} (n:Nat),IsDs K H vs ds->IsDs K H (vs.take n) (ds.take n)
 | _,_,0,_=>.nil
 | _,_,_+1,.nil=>.nil
 | _,_,n+1,.cons r t=>.cons r (IsDs.take n t)
theorem IsDs.drop:∀ {vs:List V} {ds:List D} (n:Nat),IsDs K H vs ds->IsDs K H (vs.drop n) (ds.drop n)
 | _,_,0,r=>r
 | _,_,_+1,.nil=>.nil
 | _,_,n+1,.cons _ t=>IsDs.drop n t
theorem IsDs.dropLast:∀ {vs:List V} {ds:List D},IsDs K H vs ds->IsDs K H vs.dropLast ds.dropLast
 | _,_,.nil=>.nil
 | _,_,.cons _ .nil=>.nil
 | _,_,.cons r (.cons q t)=>.cons r (IsDs.dropLast (.cons q t))
theorem IsDs.set {v:V} {d:D} (h:IsD K H v d):∀ {vs:List V} {ds:List D} (j:Nat),IsDs K H vs ds->IsDs K H (vs.set j v) (ds.set j d)
 | _,_,_,.nil=>.nil
 | _,_,0,.cons _ t=>.cons h t
 | _,_,j+1,.cons q t=>.cons q (IsDs.set h j t)
mutual
theorem IsD.noL (k:∀ b xs,Rd H b (.tup xs)->Rd H' b (.tup xs)):∀ {v:V} {d:D},IsD K H v d->L3.noL d=true->IsD K H' v d
 | _,_,.non,_=>.non
 | _,_,.bl b,_=>.bl b
 | _,_,.int i,_=>.int i
 | _,_,.str x,_=>.str x
 | _,_,.tup h hs,e=>.tup (h.imp (k _ _) id) (IsDs.noL k hs (by rw [L3.noL] at e;exact e))
 | _,_,.lst h hs,e=>by rw [L3.noL] at e;cases e
theorem IsDs.noL (k:∀ b xs,Rd H b (.tup xs)->Rd H' b (.tup xs)):∀ {vs:List V} {ds:List D},IsDs K H vs ds->L3.noLs ds=true->IsDs K H' vs ds
 | _,_,.nil,_=>.nil
 | _,_,.cons h hs,e=>by
  rw [L3.noLs,Bool.and_eq_true] at e
  exact .cons (IsD.noL k h e.1) (IsDs.noL k hs e.2)
end
end
theorem IsD.intI {K:PySem.W.Frag} {H:Hp} {v:V} {i:Int} (h:IsD K H v (.int i)):v=.int i:=by cases h;rfl
theorem IsD.blI {K:PySem.W.Frag} {H:Hp} {v:V} {b:Bool} (h:IsD K H v (.bl b)):v=.bl b:=by cases h;rfl
theorem IsD.strI {K:PySem.W.Frag} {H:Hp} {v:V} {x:Str} (h:IsD K H v (.str x)):v=.str x:=by cases h;rfl
theorem IsD.tupI {K:PySem.W.Frag} {H:Hp} {v:V} {ds:List D} (h:IsD K H v (.tup ds)):∃ a xs,v=.ref a/\SqT K H a xs/\IsDs K H xs ds:=by
 cases h with
 | tup h hs=>exact ⟨_,_,rfl,h,hs⟩
theorem IsD.lstI {K:PySem.W.Frag} {H:Hp} {v:V} {ds:List D} (h:IsD K H v (.lst ds)):∃ a xs,v=.ref a/\SqL K H a xs/\IsDs K H xs ds:=by
 cases h with
 | lst h hs=>exact ⟨_,_,rfl,h,hs⟩
def qN:Str := "ranked.<locals>.<lambda>"
def qV (P:Addr) (H:Hp):Prop:=∃ ps,H P=some (.tbl ps)/\TriplesOk ps.toList/\∀ (pos:Pos) (cv:Value),codeAmong pos ps.toList=some cv->∃ c oc vs t u,cv=.ref c/\H c=some (.frz oc u)/\oc.data=.fields vs/\vs[1]?=some (.str qN t)
theorem qV.put {P a:Addr} {H:Hp} {x:HO} (h:qV P H) (h1:∀ ps,H a≠some (.tbl ps)) (h2:∀ o u,H a≠some (.frz o u)):qV P (upd H a x):=by
 obtain ⟨ps,e,t,k⟩:=h
 refine ⟨ps,by rw [aS (show P≠a from fun z=>h1 ps (by rw [<-z];exact e))];exact e,t,fun pos cv q=>?_⟩
 obtain ⟨c,oc,vs,tk,u,r1,r2,r3⟩:=k pos cv q
 exact ⟨c,oc,vs,tk,u,r1,by rw [aS (show c≠a from fun z=>h2 oc u (by rw [<-z];exact r2))];exact r2,r3⟩
structure Keep (H H':Hp):Prop where
 k:∀ b o,H b=some o->H' b=some o∨∃ ps ps',o=.tbl ps/\H' b=some (.tbl ps')
 t:∀ P,qV P H->qV P H'
theorem Keep.refl (H:Hp):Keep H H:=⟨fun _ _ e=>.inl e,fun _ e=>e⟩
theorem Keep.trans {H H1 H2:Hp} (a:Keep H H1) (b:Keep H1 H2):Keep H H2:=
 ⟨fun c o e=>by
  rcases a.k c o e with z | ⟨ps,ps',rfl,z⟩
  ·exact b.k c o z
  ·rcases b.k c _ z with y | ⟨qs,qs',_,y⟩
   ·exact .inr ⟨ps,ps',rfl,y⟩
   ·exact .inr ⟨ps,qs',rfl,y⟩,fun P e=>b.t P (a.t P e)⟩
theorem Keep.at {H H':Hp} (k:Keep H H') {b:Addr} {o:HO} (e:H b=some o) (ho:∀ ps,o≠.tbl ps:=by intro ps z;cases z):H' b=some o:=by
 rcases k.k b o e with z | ⟨ps,ps',z,_⟩
 ·exact z
 ·exact absurd z (ho ps)
theorem Keep.none {H H':Hp} (k:Keep H H') {p:Addr} (e:H' p=none):H p=none:=by
 cases z:H p with
 | none=>rfl
 | some o=>rcases k.k p o z with y | ⟨_,_,_,y⟩<;>(rw [y] at e;cases e)
structure Ext (Hi H Hi' H':Hp):Prop where
 i:Same Hi Hi'
 h:Keep H H'
 s:Same Hi' H'
 n:∀ b,Hi b=none->Hi' b≠none->H b=none
theorem Ext.refl {Hi H:Hp} (h:Same Hi H):Ext Hi H Hi H:=⟨Same.refl _,Keep.refl _,h,fun _ e q=>absurd e q⟩
theorem Ext.trans {Hi H Hi1 H1 Hi2 H2:Hp} (a:Ext Hi H Hi1 H1) (b:Ext Hi1 H1 Hi2 H2):Ext Hi H Hi2 H2:=
 ⟨a.i.trans b.i,a.h.trans b.h,b.s,fun c e q=>by
  cases z:Hi1 c with
  | some o=>exact a.n c e (by rw [z];exact fun w=>by cases w)
  | none=>
   have z2:=b.n c z q
   exact a.h.none z2⟩
theorem cG {H:Hp} {p:Addr} (h:H p=none) (o:HO):Same H (upd H p o):=fun b u q=>by rw [aS (aX q h)];exact q
theorem zCV {H:Hp} {p:Addr} (h:H p=none) (o:HO):Keep H (upd H p o):=⟨fun b u q=>.inl (cG h o b u q),fun P e=>e.put (fun ps z=>by rw [h] at z;cases z) (fun ob u z=>by rw [h] at z;cases z)⟩
theorem _root_.L2.Same.none {H H':Hp} (h:Same H H') {p:Addr} (e:H' p=none):H p=none:=by
 cases z:H p with
 | none=>rfl
 | some o=>rw [h _ _ z] at e;cases e
theorem Ext.new {Hi H:Hp} {p:Addr} {o:HO} (h:Same Hi H) (hp:H p=none):Ext Hi H (upd Hi p o) (upd H p o) where
 i:=cG (h.none hp) o
 h:=zCV hp o
 s:=fun b u q=>by
  by_cases e:b=p
  ·subst e;rw [aR] at q ⊢;exact q
  ·rw [aS e] at q ⊢;exact h _ _ q
 n:=fun b e q=>by
  by_cases z:b=p
  ·rw [z];exact hp
  ·rw [aS z] at q;exact absurd e q
theorem Ext.newF {Hi H:Hp} {p:Addr} {o:HO} (h:Same Hi H) (hp:H p=none):Ext Hi H Hi (upd H p o) where
 i:=Same.refl _
 h:=zCV hp o
 s:=h.trans (cG hp o)
 n:=fun b e q=>absurd e q
theorem Ext.out {Hi H Hi' H':Hp} (e:Ext Hi H Hi' H') {a:Addr} {o:HO} (h:H a=some o) (hi:Hi a=none) (ho:∀ ps,o≠.tbl ps:=by intro ps z;cases z):H' a=some o/\Hi' a=none:=by
 refine ⟨e.h.at h ho,?_⟩
 cases z:Hi' a with
 | none=>rfl
 | some u=>have:=e.n a hi (by rw [z];exact fun w=>by cases w);rw [h] at this;cases this
theorem Ext.hold {Hi H Hi' H':Hp} (e:Ext Hi H Hi' H') {a:Addr} {o:HO} (hn:H a=none) (h:H' a=some o) (hi:Hi' a=none):Ext Hi H (upd Hi' a o) H' where
 i:=e.i.trans (cG hi o)
 h:=e.h
 s:=fun b u q=>by
  by_cases z:b=a
  ·subst z;rw [aR] at q;cases q;exact h
  ·rw [aS z] at q;exact e.s _ _ q
 n:=fun b z q=>by
  by_cases w:b=a
  ·rw [w];exact hn
  ·rw [aS w] at q;exact e.n b z q
def zOQ (a C:Addr):Heap->Prop:=fun h=>∃ o vs,h.get? a=some o/\o.cls=.ref C/\o.data=.fields vs
def kvT (T:List (Str×Str)):List (Key×V):=T.map fun q=>(Sum.inr q.1,V.str q.2)
def zCz (K:PySem.W.Frag) (mg:Str->Option Value) (B Hi H:Hp) (o:Option (Option V)):Sl->Prop
 | .un=>True
 | .val d=>∃ v,o=some (some v)/\IsD K Hi v d
 | .own ds=>∃ a xs,o=some (some (.ref a))/\H a=some (.lst xs)/\Hi a=none/\B a=none/\IsDs K Hi xs ds
 | .exc c=>∃ a C,o=some (some (.ref a))/\H a=some (.ext (zOQ a C))/\Hi a=none/\B a=none/\mg c=some (.ref C)
 | .tab T=>∃ a,o=some (some (.ref a))/\Hi a=some (.dK (kvT T))
structure Rel (K:PySem.W.Frag) (mg:Str->Option Value) (B Bi Hi H:Hp) (σ:St) (ρ:Rho):Prop where
 len:σ.length=ρ.length
 ext:Ext Bi B Hi H
 slot:∀ (i:Nat) (s:Sl),ρ[i]?=some s->zCz K mg B Hi H σ[i]? s
 dist:∀ (i j:Nat) (a:Addr) (ds es:List D),ρ[i]?=some (.own ds)->ρ[j]?=some (.own es)->σ[i]?=some (some (.ref a))->σ[j]?=some (some (.ref a))->i=j
section
variable {K:PySem.W.Frag} {mg:Str->Option Value} {B Bi Hi H Hi' H':Hp} {σ:St} {ρ:Rho}
theorem zCz.ext {o:Option (Option V)} {s:Sl} (h:zCz K mg B Hi H o s) (e:Ext Hi H Hi' H'):zCz K mg B Hi' H' o s:=by
 cases s with
 | un=>trivial
 | val d=>obtain ⟨v,q,r⟩:=h;exact ⟨v,q,r.mono e.i⟩
 | own ds=>
  obtain ⟨a,xs,q,h1,h2,h3,h4⟩:=h
  obtain ⟨e1,e2⟩:=e.out h1 h2
  exact ⟨a,xs,q,e1,e2,h3,h4.mono e.i⟩
 | exc c=>
  obtain ⟨a,C,q,h1,h2,h3,h4⟩:=h
  obtain ⟨e1,e2⟩:=e.out h1 h2
  exact ⟨a,C,q,e1,e2,h3,h4⟩
 | tab T=>obtain ⟨a,q,h1⟩:=h;exact ⟨a,q,e.i _ _ h1⟩
theorem Rel.grow (R:Rel K mg B Bi Hi H σ ρ) (e:Ext Hi H Hi' H'):Rel K mg B Bi Hi' H' σ ρ:=⟨R.len,R.ext.trans e,fun i s q=>(R.slot i s q).ext e,R.dist⟩
theorem Rel.s (R:Rel K mg B Bi Hi H σ ρ):Same Hi H:=R.ext.s
theorem Rel.set {i:Nat} {v:V} {d:D} (R:Rel K mg B Bi Hi H σ ρ) (h:IsD K Hi v d):Rel K mg B Bi Hi H (σ.set i (some v)) (ρ.set i (.val d)) where
 len:=by rw [List.length_set,List.length_set];exact R.len
 ext:=R.ext
 slot:=fun j s q=>by
  by_cases e:i=j
  ·subst e
   by_cases hl:i < ρ.length
   ·rw [List.getElem?_set_self hl] at q;cases q
    exact ⟨v,by rw [List.getElem?_set_self (by rw [R.len];exact hl)],h⟩
   ·rw [List.getElem?_eq_none (by rw [List.length_set];omega)] at q;cases q
  ·rw [List.getElem?_set_ne e] at q ⊢
   exact R.slot j s q
 dist:=fun j k a ds es q1 q2 q3 q4=>by
  have h1:∀ {j:Nat} {ds:List D},(ρ.set i (.val d))[j]?=some (.own ds)->i≠j:=fun {j ds} q e=>by
   subst e
   by_cases hl:i < ρ.length
   ·rw [List.getElem?_set_self hl] at q;cases q
   ·rw [List.getElem?_eq_none (by rw [List.length_set];omega)] at q;cases q
  have n1:=h1 q1
  have n2:=h1 q2
  rw [List.getElem?_set_ne n1] at q1 q3
  rw [List.getElem?_set_ne n2] at q2 q4
  exact R.dist j k a ds es q1 q2 q3 q4
theorem Rel.setOwn {i:Nat} {a:Addr} {xs:List V} {ds:List D} (R:Rel K mg B Bi Hi H σ ρ) (e:Ext Hi H Hi' H') (hn:H a=none) (h:H' a=some (.lst xs)) (hi:Hi' a=none) (hs:IsDs K Hi' xs ds):
  Rel K mg B Bi Hi' H' (σ.set i (some (.ref a))) (ρ.set i (.own ds)) where
 len:=by rw [List.length_set,List.length_set];exact R.len
 ext:=R.ext.trans e
 slot:=fun j s q=>by
  by_cases z:i=j
  ·subst z
   by_cases hl:i < ρ.length
   ·rw [List.getElem?_set_self hl] at q;cases q
    exact ⟨a,xs,by rw [List.getElem?_set_self (by rw [R.len];exact hl)],h,hi,R.ext.h.none hn,hs⟩
   ·rw [List.getElem?_eq_none (by rw [List.length_set];omega)] at q;cases q
  ·rw [List.getElem?_set_ne z] at q ⊢
   exact (R.slot j s q).ext e
 dist:=fun j k b es fs q1 q2 q3 q4=>by
  have h1:∀ {j:Nat} {es:List D},i≠j->ρ[j]?=some (.own es)->σ[j]?=some (some (.ref a))->False:=fun {j es} _ p1 p2=>by
   obtain ⟨a',xs',q,h1,_⟩:=R.slot j _ p1
   rw [p2] at q
   cases q
   rw [hn] at h1;cases h1
  have h2:∀ {j:Nat} {es:List D},(ρ.set i (.own ds))[j]?=some (.own es)->i < σ.length∨i≠j:=fun {j es} p=>by
   by_cases z:i=j
   ·subst z
    by_cases hl:i < ρ.length
    ·exact .inl (by rw [R.len];exact hl)
    ·rw [List.getElem?_eq_none (by rw [List.length_set];omega)] at p;cases p
   ·exact .inr z
  by_cases z1:i=j
  ·by_cases z2:i=k
   ·rw [<-z1,<-z2]
   ·exfalso
    subst z1
    have hl:i < σ.length:=(h2 q1).resolve_right (fun w=>w rfl)
    rw [List.getElem?_set_self hl] at q3;cases q3
    rw [List.getElem?_set_ne z2] at q2 q4
    exact h1 z2 q2 q4
  ·by_cases z2:i=k
   ·exfalso
    subst z2
    have hl:i < σ.length:=(h2 q2).resolve_right (fun w=>w rfl)
    rw [List.getElem?_set_self hl] at q4;cases q4
    rw [List.getElem?_set_ne z1] at q1 q3
    exact h1 z1 q1 q3
   ·rw [List.getElem?_set_ne z1] at q1 q3
    rw [List.getElem?_set_ne z2] at q2 q4
    exact R.dist j k b es fs q1 q2 q3 q4
theorem Rel.write {i:Nat} {a:Addr} {ys:List V} {ds es:List D} (R:Rel K mg B Bi Hi H σ ρ) (e:ρ[i]?=some (.own ds)) (ea:σ[i]?=some (some (.ref a))) (hs:IsDs K Hi ys es):
  Rel K mg B Bi Hi (upd H a (.lst ys)) σ (ρ.set i (.own es)):=by
 obtain ⟨a',xs',q,h1,h2,h3,h4⟩:=R.slot i _ e
 rw [ea] at q
 cases q
 have hl:i < ρ.length:=by
  by_cases hl:i < ρ.length
  ·exact hl
  ·rw [List.getElem?_eq_none (by omega)] at e;cases e
 refine ⟨by rw [List.length_set];exact R.len,⟨R.ext.i,⟨fun b o z=>?_,fun P z=>(R.ext.h.t P z).put (fun ps y=>by rw [h1] at y;cases y) (fun ob u y=>by rw [h1] at y;cases y)⟩,fun b o z=>?_,R.ext.n⟩,fun j s z=>?_,fun j k b fs gs q1 q2 q3 q4=>?_⟩
 ·rw [aS (aX z h3)];exact R.ext.h.k _ _ z
 ·rw [aS (aX z h2)];exact R.ext.s _ _ z
 ·by_cases w:i=j
  ·subst w
   rw [List.getElem?_set_self hl] at z;cases z
   exact ⟨a,ys,ea,aR,h2,h3,hs⟩
  ·rw [List.getElem?_set_ne w] at z
   have S:=R.slot j s z
   cases s with
   | un=>trivial
   | val d=>exact S
   | own fs=>
    obtain ⟨b,zs,p,g1,g2,g3,g4⟩:=S
    have hb:b≠a:=fun c=>w (R.dist i j a ds fs e z ea (by rw [p,c]))
    exact ⟨b,zs,p,by rw [aS hb];exact g1,g2,g3,g4⟩
   | exc c=>
    obtain ⟨b,C,p,g1,g2,g3,g4⟩:=S
    have hb:b≠a:=zLK g1 h1 (by intro z;cases z)
    exact ⟨b,C,p,by rw [aS hb];exact g1,g2,g3,g4⟩
   | tab T=>exact S
 ·have own:∀ {j:Nat} {fs:List D},(ρ.set i (.own es))[j]?=some (.own fs)->∃ gs,ρ[j]?=some (.own gs):=fun {j fs} p=>by
   by_cases w:i=j
   ·subst w;exact ⟨ds,e⟩
   ·rw [List.getElem?_set_ne w] at p;exact ⟨fs,p⟩
  obtain ⟨fs',q1'⟩:=own q1
  obtain ⟨gs',q2'⟩:=own q2
  exact R.dist j k b fs' gs' q1' q2' q3 q4
theorem Rel.frzAt {i:Nat} (R:Rel K mg B Bi Hi H σ ρ):∃ Hi',Same Hi Hi'/\Rel K mg B Bi Hi' H σ (L3.frzAt i ρ):=by
 unfold L3.frzAt
 split
 ·rename_i ds e
  obtain ⟨a,xs,q,h1,h2,h3,h4⟩:=R.slot i _ e
  have hl:i < ρ.length:=by
   by_cases hl:i < ρ.length
   ·exact hl
   ·rw [List.getElem?_eq_none (by omega)] at e;cases e
  have sm:Same Hi (upd Hi a (.lst xs)):=cG h2 _
  have ss:Same (upd Hi a (.lst xs)) H:=fun b u z=>by
   by_cases w:b=a
   ·subst w;rw [aR] at z;cases z;exact h1
   ·rw [aS w] at z;exact R.s _ _ z
  refine ⟨upd Hi a (.lst xs),sm,by rw [List.length_set];exact R.len,⟨R.ext.i.trans sm,R.ext.h,ss,fun b z w=>?_⟩,fun j s z=>?_,fun j k b fs gs q1 q2 q3 q4=>?_⟩
  ·by_cases c:b=a
   ·rw [c];exact h3
   ·rw [aS c] at w;exact R.ext.n b z w
  ·by_cases w:i=j
   ·subst w
    rw [List.getElem?_set_self hl] at z;cases z
    exact ⟨.ref a,q,.lst (SqL.of aR) (h4.mono sm)⟩
   ·rw [List.getElem?_set_ne w] at z
    have S:=R.slot j s z
    cases s with
    | un=>trivial
    | val d=>obtain ⟨v,p,r⟩:=S;exact ⟨v,p,r.mono sm⟩
    | own fs=>
     obtain ⟨b,zs,p,g1,g2,g3,g4⟩:=S
     have hb:b≠a:=fun c=>w (R.dist i j a ds fs e z q (by rw [p,c]))
     exact ⟨b,zs,p,g1,by rw [aS hb];exact g2,g3,g4.mono sm⟩
    | exc c=>
     obtain ⟨b,C,p,g1,g2,g3,g4⟩:=S
     have hb:b≠a:=zLK g1 h1 (by intro z;cases z)
     exact ⟨b,C,p,g1,by rw [aS hb];exact g2,g3,g4⟩
    | tab T=>obtain ⟨b,p,g1⟩:=S;exact ⟨b,p,sm _ _ g1⟩
  ·have own:∀ {j:Nat} {fs:List D},(ρ.set i (.val (.lst ds)))[j]?=some (.own fs)->ρ[j]?=some (.own fs):=fun {j fs} p=>by
    by_cases w:i=j
    ·subst w;rw [List.getElem?_set_self hl] at p;cases p
    ·rw [List.getElem?_set_ne w] at p;exact p
   exact R.dist j k b fs gs (own q1) (own q2) q3 q4
 ·exact ⟨Hi,Same.refl _,R⟩
end
end L3
namespace L3
open PySem PySem.Spec PyProof.Rows L2
section
variable {K:PySem.W.Frag} {mg:Str->Option Value} {B Bi Hi H Hi' H':Hp} {σ:St} {ρ:Rho}
theorem Rel.frz (R:Rel K mg B Bi Hi H σ ρ):∃ Hf,Same Hi Hf/\Rel K mg B Bi Hf H σ (ρ.map Sl.frz)/\∀ b,Hi b=none->Hf b≠none->∃ xs,Hf b=some (.lst xs):=by
 let own:Addr->Prop:=fun b=>∃ (i:Nat) (ds:List D),ρ[i]?=some (.own ds)/\σ[i]?=some (some (.ref b))
 have dec:∀ b,Decidable (own b):=fun b=>Classical.propDecidable _
 let Hf:Hp:=fun b=>match Hi b with
  | some o=>some o
  | none=>if own b then H b else none
 have hf1:∀ b o,Hi b=some o->Hf b=some o:=fun b o e=>by show (match Hi b with | some o=>some o | none=>if own b then H b else none)=_;rw [e]
 have hf2:∀ b,Hi b=none->own b->Hf b=H b:=fun b e z=>by show (match Hi b with | some o=>some o | none=>if own b then H b else none)=_;rw [e];exact if_pos z
 have hf3:∀ b,Hi b=none->¬ own b->Hf b=none:=fun b e z=>by show (match Hi b with | some o=>some o | none=>if own b then H b else none)=_;rw [e];exact if_neg z
 have lst:∀ b,own b->∃ xs,H b=some (.lst xs)/\Hi b=none/\B b=none:=fun b ⟨i,ds,e1,e2⟩=>by
  obtain ⟨a,xs,q,h1,h2,h3,h4⟩:=R.slot i _ e1
  rw [e2] at q;cases q
  exact ⟨xs,h1,h2,h3⟩
 have ss:Same Hf H:=fun b o z=>by
  cases q:Hi b with
  | some u=>rw [hf1 b u q] at z;cases z;exact R.s _ _ q
  | none=>
   by_cases w:own b
   ·rw [hf2 b q w] at z;exact z
   ·rw [hf3 b q w] at z;cases z
 refine ⟨Hf,hf1,⟨by rw [List.length_map];exact R.len,⟨R.ext.i.trans hf1,R.ext.h,ss,fun b z w=>?_⟩,fun j s z=>?_,fun j k b fs gs q1 q2 q3 q4=>?_⟩,fun b z w=>?_⟩
 ·cases q:Hi b with
  | some u=>exact R.ext.n b z (by rw [q];exact fun c=>by cases c)
  | none=>
   by_cases c:own b
   ·exact (lst b c).choose_spec.2.2
   ·exact absurd (hf3 b q c) w
 ·rw [List.getElem?_map] at z
  cases e:ρ[j]? with
  | none=>rw [e] at z;cases z
  | some t=>
   rw [e] at z
   cases z
   have S:=R.slot j t e
   cases t with
   | un=>trivial
   | val d=>obtain ⟨v,p,r⟩:=S;exact ⟨v,p,r.mono hf1⟩
   | own ds=>
    obtain ⟨a,xs,q,h1,h2,h3,h4⟩:=S
    exact ⟨.ref a,q,.lst (SqL.of (by rw [hf2 a h2 ⟨j,ds,e,q⟩];exact h1)) (h4.mono hf1)⟩
   | exc c=>
    obtain ⟨a,C,q,h1,h2,h3,h4⟩:=S
    refine ⟨a,C,q,h1,?_,h3,h4⟩
    refine hf3 a h2 fun c=>?_
    obtain ⟨xs,g,_⟩:=lst a c
    rw [h1] at g;cases g
   | tab T=>obtain ⟨a,q,h1⟩:=S;exact ⟨a,q,hf1 _ _ h1⟩
 ·exfalso
  rw [List.getElem?_map] at q1
  cases e:ρ[j]? with
  | none=>rw [e] at q1;cases q1
  | some t=>rw [e] at q1;cases t<;>cases q1
 ·by_cases c:own b
  ·obtain ⟨xs,g,_⟩:=lst b c
   exact ⟨xs,by rw [hf2 b z c];exact g⟩
  ·exact absurd (hf3 b z c) w
theorem Ext.thaw {Hf:Hp} (s:Same Hi Hf) (fl:∀ b,Hi b=none->Hf b≠none->∃ xs,Hf b=some (.lst xs)) (hs:Same Hf H) (e:Ext Hf H Hi' H'):
  ∃ Ht,Ext Hi H Ht H'/\(∀ b xs,Rd Hi' b (.tup xs)->Rd Ht b (.tup xs))/\Same Ht Hi'/\∀ b,Ht b=none->Hi' b=none∨∃ xs,H b=some (.lst xs):=by
 have dec:∀ b,Decidable (Hi b=none/\Hf b≠none):=fun b=>Classical.propDecidable _
 let Ht:Hp:=fun b=>if Hi b=none/\Hf b≠none then none else Hi' b
 have t1:∀ b,¬ (Hi b=none/\Hf b≠none)->Ht b=Hi' b:=fun b z=>if_neg z
 have t2:∀ b,(Hi b=none/\Hf b≠none)->Ht b=none:=fun b z=>if_pos z
 have tt:Same Ht Hi':=fun b o z=>by
  by_cases w:Hi b=none/\Hf b≠none
  ·rw [t2 b w] at z;cases z
  ·rw [t1 b w] at z;exact z
 refine ⟨Ht,⟨fun b o z=>?_,e.h,tt.trans e.s,fun b z w=>?_⟩,fun b xs r=>?_,tt,fun b z=>?_⟩
 ·rw [t1 b (fun w=>by rw [z] at w;cases w.1)];exact e.i _ _ (s _ _ z)
 ·by_cases c:Hi b=none/\Hf b≠none
  ·exact absurd (t2 b c) w
  ·rw [t1 b c] at w
   have:Hf b=none:=by
    cases q:Hf b with
    | none=>rfl
    | some u=>exact absurd ⟨z,by rw [q];exact fun c=>by cases c⟩ c
   exact e.n b this w
 ·have nl:¬ (Hi b=none/\Hf b≠none):=fun w=>by
   obtain ⟨ys,g⟩:=fl b w.1 w.2
   have g':=e.i _ _ g
   rcases r with r | ⟨o,r⟩<;>(rw [g'] at r;cases r)
  rcases r with r | ⟨o,r⟩
  ·exact .inl (by rw [t1 b nl];exact r)
  ·exact .inr ⟨o,by rw [t1 b nl];exact r⟩
 ·by_cases c:Hi b=none/\Hf b≠none
  ·obtain ⟨ys,g⟩:=fl b c.1 c.2
   exact .inr ⟨ys,hs _ _ g⟩
  ·exact .inl (by rw [t1 b c] at z;exact z)
end
structure Gx where
 B:Hp
 Bi:Hp
 E:Str->Hp->Prop
abbrev kE (X:Cx) (G:Gx) (Hi H:Hp) (σ:St) (ρ:Rho):Prop:=Rel X.K X.mg G.B G.Bi Hi H σ ρ
def Out (G:Gx) (Hi H:Hp) {α:Type} (r:Res α) (k:α->Hp->Hp->Prop):Prop:=match r with
 | .ok a=>∀ Hi' H',Ext Hi H Hi' H'->k a Hi' H'
 | .err c=>∀ Hi' H',Ext Hi H Hi' H'->G.E c H'
 | .no=>False
theorem Out.bind {G:Gx} {Hi H:Hp} {α β:Type} {r:Res α} {f:α->Res β} {k:β->Hp->Hp->Prop} (h:Out G Hi H (r.bind f) k):
  Out G Hi H r fun a Hi' H'=>Out G Hi' H' (f a) k:=by
 cases r with
 | no=>exact h
 | err c=>exact h
 | ok a=>
  intro Hi1 H1 e
  have h':Out G Hi H (f a) k:=h
  show Out G Hi1 H1 (f a) k
  cases q:f a with
  | no=>rw [q] at h';exact h'
  | err c=>rw [q] at h';exact fun Hi2 H2 e2=>h' _ _ (e.trans e2)
  | ok b=>rw [q] at h';exact fun Hi2 H2 e2=>h' _ _ (e.trans e2)
theorem Out.imp {G:Gx} {Hi H:Hp} {α:Type} {r:Res α} {k k':α->Hp->Hp->Prop} (h:Out G Hi H r k) (f:∀ a Hi' H',Ext Hi H Hi' H'->k a Hi' H'->k' a Hi' H'):Out G Hi H r k':=by
 cases r with
 | no=>exact h
 | err c=>exact h
 | ok a=>exact fun Hi1 H1 e=>f a Hi1 H1 e (h Hi1 H1 e)
theorem Out.here {G:Gx} {Hi H:Hp} {α:Type} {a:α} {k:α->Hp->Hp->Prop} (h:Out G Hi H (.ok a) k) (s:Same Hi H):k a Hi H:=h Hi H (Ext.refl s)
def tD (X:Cx) (G:Gx) (f:Ev):TE:=fun σ H Q=>∃ ρ Hi,kE X G Hi H σ ρ/\Out G Hi H (f ρ) fun d Hi' H'=>∀ v,IsD X.K Hi' v d->Q v H'
def zIi (K:PySem.W.Frag) (H Hi' H':Hp) (a:Addr) (ds:List D):Prop:=H a=none/\Hi' a=none/\∃ xs,H' a=some (.lst xs)/\IsDs K Hi' xs ds
def tF (X:Cx) (G:Gx) (f:Fv):TE:=fun σ H Q=>∃ ρ Hi,kE X G Hi H σ ρ/\Out G Hi H (f ρ) fun ds Hi' H'=>∀ a,zIi X.K H Hi' H' a ds->Q (.ref a) H'
def tTb (X:Cx) (G:Gx) (f:Tv):TT:=fun σ H Q=>∃ ρ Hi,kE X G Hi H σ ρ/\Out G Hi H (f ρ) fun b _ H'=>Q b H'
def tAs (X:Cx) (G:Gx) (f:Fv):TA:=fun σ H Q=>∃ ρ Hi,kE X G Hi H σ ρ/\Out G Hi H (f ρ) fun ds Hi' H'=>∀ vs,IsDs X.K Hi' vs ds->Q vs H'
def Fin (X:Cx) (G:Gx) (Hi:Hp) (E:Ends) (r:Res Fl):Prop:=match r with
 | .ok (.nx ρ')=>∀ σ' Hi' H',Same Hi Hi'->kE X G Hi' H' σ' ρ'->E.nx σ' H'
 | .ok (.brk ρ')=>∀ σ' Hi' H',Same Hi Hi'->kE X G Hi' H' σ' ρ'->E.bk σ' H'
 | .ok (.ctn ρ')=>∀ σ' Hi' H',Same Hi Hi'->kE X G Hi' H' σ' ρ'->E.ct σ' H'
 | .ok (.ret (.v d))=>∀ v Hi' H',Ext G.Bi G.B Hi' H'->IsD X.K Hi' v d->E.rt v H'
 | .ok (.ret (.f ds))=>∀ a Hi' H',Ext G.Bi G.B Hi' H'->zIi X.K G.B Hi' H' a ds->E.rt (.ref a) H'
 | .err c=>∀ Hi' H',Ext G.Bi G.B Hi' H'->G.E c H'
 | .no=>False
theorem Fin.mono {X:Cx} {G:Gx} {Hi Hi':Hp} {E:Ends} {r:Res Fl} (h:Fin X G Hi E r) (s:Same Hi Hi'):Fin X G Hi' E r:=by
 cases r with
 | no=>exact h
 | err c=>exact h
 | ok f=>
  cases f with
  | nx ρ=>exact fun σ' Hi2 H2 s2=>h σ' Hi2 H2 (s.trans s2)
  | brk ρ=>exact fun σ' Hi2 H2 s2=>h σ' Hi2 H2 (s.trans s2)
  | ctn ρ=>exact fun σ' Hi2 H2 s2=>h σ' Hi2 H2 (s.trans s2)
  | ret r=>cases r<;>exact h
def tS (X:Cx) (G:Gx) (f:Sv):TS:=fun E σ H=>∃ ρ Hi,kE X G Hi H σ ρ/\Fin X G Hi E (f ρ)
@[irreducible] def PEd (X:Cx) (G:Gx) (e:Expr) (f:Ev):Prop:=PE X e (tD X G f)
unseal PEd
@[irreducible] def PEf (X:Cx) (G:Gx) (e:Expr) (f:Fv):Prop:=PE X e (tF X G f)
unseal PEf
@[irreducible] def PTd (X:Cx) (G:Gx) (e:Expr) (f:Tv):Prop:=PT X e (tTb X G f)
unseal PTd
@[irreducible] def PWd (X:Cx) (G:Gx) (e:Expr) (f:Tv):Prop:=PW X e (tTb X G f)
unseal PWd
@[irreducible] def PAd (X:Cx) (G:Gx) (es:List Expr) (f:Fv):Prop:=PA X es (tAs X G f)
unseal PAd
@[irreducible] def PSd (X:Cx) (G:Gx) (s:Stmt) (f:Sv):Prop:=PS X s (tS X G f)
unseal PSd
@[irreducible] def dC (X:Cx) (G:Gx) (s:List Stmt) (f:Sv):Prop:=PSs X s (tS X G f)
unseal dC
theorem PE.wk {X:Cx} {e:Expr} {t t':TE} (h:PE X e t) (w:∀ σ H Q,t' σ H Q->t σ H Q):PE X e t':=fun pins s σ H Q I q=>h pins s σ H Q I (w σ H Q q)
theorem PT.wk {X:Cx} {e:Expr} {t t':TT} (h:PT X e t) (w:∀ σ H Q,t' σ H Q->t σ H Q):PT X e t':=fun pins s σ H Q I q=>h pins s σ H Q I (w σ H Q q)
theorem PW.wk {X:Cx} {e:Expr} {t t':TT} (h:PW X e t) (w:∀ σ H Q,t' σ H Q->t σ H Q):PW X e t':=fun wh pins s σ H Q I q=>h wh pins s σ H Q I (w σ H Q q)
theorem PA.wk {X:Cx} {es:List Expr} {t t':TA} (h:PA X es t) (w:∀ σ H Q,t' σ H Q->t σ H Q):PA X es t':=fun pos pins s σ H Q I q=>h pos pins s σ H Q I (w σ H Q q)
theorem PS.wk {X:Cx} {s:Stmt} {t t':TS} (h:PS X s t) (w:∀ E σ H,t' E σ H->t E σ H):PS X s t':=fun pins s σ H E I q=>h pins s σ H E I (w E σ H q)
theorem PSs.wk {X:Cx} {s:List Stmt} {t t':TS} (h:PSs X s t) (w:∀ E σ H,t' E σ H->t E σ H):PSs X s t':=fun pins s σ H E I q=>h pins s σ H E I (w E σ H q)
section
variable {X:Cx} {G:Gx} {a b e:Expr} {es:List Expr} {pos:Pos} {f g:Ev}
theorem zMN (i:Nat) (h:PE X e (uH i)):PEd X G e (aF i):=PE.wk h fun σ H Q q=>by
 obtain ⟨ρ,Hi,R,o⟩:=q
 unfold aF at o
 cases z:ρ[i]? with
 | none=>rw [z] at o;exact o.elim
 | some s=>
  rw [z] at o
  cases s with
  | val d=>
   obtain ⟨v,p,r⟩:=R.slot i _ z
   exact ⟨v,p,o.here R.s v r⟩
  | un=>exact o.elim
  | own ds=>exact o.elim
  | exc c=>exact o.elim
  | tab T=>exact o.elim
theorem pP {v:V} {d:D} (h:PE X e (tC v)) (r:∀ H,IsD X.K H v d):PEd X G e (eC d):=PE.wk h fun σ H Q q=>by
 obtain ⟨ρ,Hi,R,o⟩:=q
 exact o.here R.s v (r Hi)
theorem zBv {Hi H:Hp} {σ:St} {ρ:Rho} {β:Type} {k:D->Res β} {k':β->Hp->Hp->Prop} {Q:VK} (R:kE X G Hi H σ ρ) (o:Out G Hi H ((f ρ).bind k) k')
  (w:∀ v d Hi' H',Ext Hi H Hi' H'->kE X G Hi' H' σ ρ->IsD X.K Hi' v d->Out G Hi' H' (k d) k'->Q v H'):tD X G f σ H Q:=
 ⟨ρ,Hi,R,o.bind.imp fun d Hi' H' e q v r=>w v d Hi' H' e (R.grow e) r q⟩
def OpK (X:Cx) (r:R2) (o:Op2):Prop:=(∀ a b c,o a b≠.err c)/\∀ (Hi H:Hp) (x y:V) (a b d:D) (Q:VK),Same Hi H->IsD X.K Hi x a->IsD X.K Hi y b->o a b=.ok d->
 (∀ v Hi' H',Ext Hi H Hi' H'->IsD X.K Hi' v d->Q v H')->r x y H Q
theorem op2 {r:R2} {o:Op2} (k:OpK X r o):∀ σ H Q,tD X G (eOp o f g) σ H Q->tOp r (tD X G f) (tD X G g) σ H Q:=fun σ H Q q=>by
 obtain ⟨ρ,Hi,R,ou⟩:=q
 refine zBv R ou fun v d Hi1 H1 e1 R1 r1 o1=>?_
 refine zBv R1 o1 fun w d' Hi2 H2 e2 R2 r2 o2=>?_
 cases z:o d d' with
 | no=>rw [z] at o2;exact o2.elim
 | err c=>exact absurd z (k.1 d d' c)
 | ok u=>
  rw [z] at o2
  exact k.2 Hi2 H2 v w d d' u Q R2.s (r1.mono e2.i) r2 z fun x Hi3 H3 e3 r3=>o2 Hi3 H3 e3 x r3
theorem bH {op:Operator} {r:R2} {o:Op2} (ho:OpR X (binaryOp op) r) (k:OpK X r o) (ha:PEd X G a f) (hb:PEd X G b g):PEd X G (.BinOp a op b pos) (eOp o f g):=PE.wk (zFm ho ha hb) (op2 k)
theorem qF {op:CmpOp} {r:R2} {o:Op2} (ho:OpR X (compareOp op) r) (k:OpK X r o) (ha:PEd X G a f) (hb:PEd X G b g) (hm:behindInMarks op b=false):PEd X G (.Compare a [op] [b] pos) (eOp o f g):=PE.wk (zJS ho ha hb hm) (op2 k)
theorem cN {r:R2} {o:Op2} (ho:IxR X r) (k:OpK X r o) (ha:PEd X G a f) (hb:PEd X G b g) (hs:zBU b):PEd X G (.Subscript a b pos) (eOp o f g):=PE.wk (zEd ho ha hb hs) (op2 k)
theorem tst {op:CmpOp} {r:R2} {o:Op2} (ho:OpR X (compareOp op) r) (k:OpK X r o) (ha:PEd X G a f) (hb:PEd X G b g) (hm:behindInMarks op b=false):PTd X G (.Compare a [op] [b] pos) (dQ (eOp o f g)):=
 PT.wk (zEP ho ha hb hm) fun σ H Q q=>by
  obtain ⟨ρ,Hi,R,ou⟩:=q
  refine op2 k σ H _ ⟨ρ,Hi,R,ou.bind.imp fun d Hi' H' e o v r=>?_⟩
  cases d with
  | bl c=>rw [r.blI];exact ⟨c,rfl,o.here e.s⟩
  | _=>exact o.elim
theorem tV (h:PEd X G a f) (he:∀ whole,isTrue a X.env whole=(do let v <-whole;standAt a.pos;holding [v] (truthy v)):=by intro _;rfl):PTd X G a (dQ f):=PT.wk (zFd h he) fun σ H Q q=>by
 obtain ⟨ρ,Hi,R,ou⟩:=q
 refine ⟨ρ,Hi,R,ou.bind.imp fun d Hi' H' e o v r=>?_⟩
 cases d with
 | bl c=>rw [r.blI];exact ⟨c,rfl,o.here e.s⟩
 | _=>exact o.elim
variable {t u:Tv}
theorem zNR {Hi H:Hp} {σ:St} {ρ:Rho} {β:Type} {k:Bool->Res β} {k':β->Hp->Hp->Prop} {Q:Bool->Hp->Prop} (R:kE X G Hi H σ ρ) (o:Out G Hi H ((t ρ).bind k) k')
  (w:∀ c Hi' H',Ext Hi H Hi' H'->kE X G Hi' H' σ ρ->Out G Hi' H' (k c) k'->Q c H'):tTb X G t σ H Q:=
 ⟨ρ,Hi,R,o.bind.imp fun d Hi' H' e q=>w d Hi' H' e (R.grow e) q⟩
theorem zDX (h:PTd X G a t):PTd X G (.UnaryOp .Not a pos) (mW t):=PT.wk (zEG h) fun σ H Q q=>by
 obtain ⟨ρ,Hi,R,ou⟩:=q
 exact zNR R ou fun c Hi1 H1 e1 R1 o1=>o1.here R1.s
theorem zFf (h:PTd X G a t):PWd X G (.BoolOp .And [a] pos) t:=zKU h
theorem vG (h:PTd X G a t):PWd X G (.BoolOp .Or [a] pos) t:=zNA h
theorem zJP {rest:List Expr} (ha:PTd X G a t) (hb:PWd X G (.BoolOp .And (b::rest) pos) u):PWd X G (.BoolOp .And (a::b::rest) pos) (zDP t u):=PW.wk (zMR ha hb) fun σ H Q q=>by
 obtain ⟨ρ,Hi,R,ou⟩:=q
 refine zNR R ou fun c Hi1 H1 e1 R1 o1=>?_
 cases c with
 | true=>exact ⟨ρ,Hi1,R1,o1⟩
 | false=>exact o1.here R1.s
theorem zHc {rest:List Expr} (ha:PTd X G a t) (hb:PWd X G (.BoolOp .Or (b::rest) pos) u):PWd X G (.BoolOp .Or (a::b::rest) pos) (zDb t u):=PW.wk (zOG ha hb) fun σ H Q q=>by
 obtain ⟨ρ,Hi,R,ou⟩:=q
 refine zNR R ou fun c Hi1 H1 e1 R1 o1=>?_
 cases c with
 | true=>exact o1.here R1.s
 | false=>exact ⟨ρ,Hi1,R1,o1⟩
theorem PWd.pt {e:Expr} (h:PWd X G e t):PTd X G e t:=PW.pt h
theorem zMD {op} (h:PEd X G a f):PEd X G (.BoolOp op [a] pos) f:=zNh h
theorem zNc {rest:List Expr} (ha:PEd X G a f) (hb:PEd X G (.BoolOp .And (b::rest) pos) g):PEd X G (.BoolOp .And (a::b::rest) pos) (zNN f g):=PE.wk (zMF ha hb) fun σ H Q q=>by
 obtain ⟨ρ,Hi,R,ou⟩:=q
 refine zBv R ou fun v d Hi1 H1 e1 R1 r1 o1=>?_
 cases d with
 | bl c=>
  refine ⟨c,r1.blI,?_⟩
  cases c with
  | true=>exact ⟨ρ,Hi1,R1,o1⟩
  | false=>exact o1.here R1.s _ (.bl false)
 | _=>exact o1.elim
theorem qE (ha:PEd X G a f):PEd X G (.UnaryOp .USub a pos) (eUn zHo f):=PE.wk (zOl zMn ha) fun σ H Q q=>by
 obtain ⟨ρ,Hi,R,ou⟩:=q
 refine zBv R ou fun v d Hi1 H1 e1 R1 r1 o1=>?_
 cases d with
 | int c=>exact ⟨c,r1.intI,o1.here R1.s _ (.int _)⟩
 | _=>exact o1.elim
theorem zMT {c:Expr} (hc:PTd X G c t) (ha:PEd X G a f) (hb:PEd X G b g):PEd X G (.IfExp c a b pos) (eIf t f g):=PE.wk (zHI hc ha hb) fun σ H Q q=>by
 obtain ⟨ρ,Hi,R,ou⟩:=q
 refine zNR R ou fun c Hi1 H1 e1 R1 o1=>?_
 cases c with
 | true=>exact ⟨ρ,Hi1,R1,o1⟩
 | false=>exact ⟨ρ,Hi1,R1,o1⟩
variable {fs:Fv}
theorem aI:PAd X G [] aNil:=PA.wk kY fun σ H Q q=>by
 obtain ⟨ρ,Hi,R,ou⟩:=q
 exact ou.here R.s [] .nil
theorem aA (ha:PEd X G e f) (hr:PAd X G es fs) (hs:starEach (e::es) X.env=(false,eval e X.env)::starEach es X.env:=by rfl):PAd X G (e::es) (aB f fs):=PA.wk (dB ha hr hs) fun σ H Q q=>by
 obtain ⟨ρ,Hi,R,ou⟩:=q
 refine zBv R ou fun v d Hi1 H1 e1 R1 r1 o1=>?_
 refine ⟨ρ,Hi1,R1,o1.bind.imp fun ds Hi2 H2 e2 o2 vs rs=>?_⟩
 exact o2.here e2.s _ (.cons (r1.mono e2.i) rs)
theorem zHl {Hi H:Hp} {σ:St} {ρ:Rho} {β:Type} {k:List D->Res β} {k':β->Hp->Hp->Prop} {Q:List V->Hp->Prop} (R:kE X G Hi H σ ρ) (o:Out G Hi H ((fs ρ).bind k) k')
  (w:∀ vs ds Hi' H',Ext Hi H Hi' H'->kE X G Hi' H' σ ρ->IsDs X.K Hi' vs ds->Out G Hi' H' (k ds) k'->Q vs H'):tAs X G fs σ H Q:=
 ⟨ρ,Hi,R,o.bind.imp fun d Hi' H' e q v r=>w v d Hi' H' e (R.grow e) r q⟩
theorem dS {x1} (h:PAd X G es fs):PEd X G (.Tuple es x1 pos) (rK fs):=PE.wk (zLQ h) fun σ H Q q=>by
 obtain ⟨ρ,Hi,R,ou⟩:=q
 refine zHl R ou fun vs ds Hi1 H1 e1 R1 r1 o1=>?_
 by_cases hz:ds.length<=16777216
 ·rw [if_pos hz] at o1
  refine ⟨by rw [r1.length];exact hz,fun p hp=>?_⟩
  exact o1 _ _ (Ext.new R1.s hp) (.ref p) (.tup (SqT.of aR) (r1.mono (cG (R1.s.none hp) _)))
 ·rw [if_neg hz] at o1;exact o1.elim
theorem eO (h:PAd X G es fs):PEf X G (.List es pos) (vH fs):=PE.wk (zNJ h) fun σ H Q q=>by
 obtain ⟨ρ,Hi,R,ou⟩:=q
 refine zHl R ou fun vs ds Hi1 H1 e1 R1 r1 o1=>?_
 by_cases hz:ds.length<=16777216
 ·rw [if_pos hz] at o1
  refine ⟨by rw [r1.length];exact hz,fun p hp=>?_⟩
  exact o1 _ _ (Ext.newF R1.s hp) p ⟨e1.h.none hp,R1.s.none hp,vs,aR,r1⟩
 ·rw [if_neg hz] at o1;exact o1.elim
theorem PEf.d (h:PEf X G e fs):PEd X G e (eF fs):=PE.wk h fun σ H Q q=>by
 obtain ⟨ρ,Hi,R,ou⟩:=q
 refine ⟨ρ,Hi,R,?_⟩
 cases z:fs ρ with
 | no=>unfold eF at ou;rw [z] at ou;exact ou
 | err c=>unfold eF at ou;rw [z] at ou;exact ou
 | ok ds=>
  unfold eF at ou;rw [z] at ou
  intro Hi1 H1 e1 a n
  obtain ⟨n1,n2,xs,n3,n4⟩:=n
  have ou':∀ Hi' H',Ext Hi H Hi' H'->∀ v,IsD X.K Hi' v (.lst ds)->Q v H':=ou
  exact ou' _ _ (e1.hold n1 n3 n2) (.ref a) (.lst (SqL.of aR) (n4.mono (cG n2 _)))
theorem PEd.frz (h:PEd X G e f):PEd X G e (zNX f):=PE.wk h fun σ H Q q=>by
 obtain ⟨ρ,Hi,R,ou⟩:=q
 obtain ⟨Hf,s1,R1,fl⟩:=R.frz
 refine ⟨ρ.map Sl.frz,Hf,R1,?_⟩
 unfold zNX at ou
 cases z:f (ρ.map Sl.frz) with
 | no=>rw [z] at ou;exact ou
 | err c=>
  rw [z] at ou
  intro Hi1 H1 e1
  have ou':∀ Hi' H',Ext Hi H Hi' H'->G.E c H':=ou
  obtain ⟨Ht,e2,k,s2,n⟩:=Ext.thaw s1 fl R1.s e1
  exact ou' Ht H1 e2
 | ok d=>
  rw [z] at ou
  by_cases hz:noL d=true
  ·have ou':Out G Hi H (if noL d=true then Res.ok d else .no) _:=ou
   rw [if_pos hz] at ou'
   intro Hi1 H1 e1 v r
   obtain ⟨Ht,e2,k,s2,n⟩:=Ext.thaw s1 fl R1.s e1
   exact ou' Ht H1 e2 v (r.noL k hz)
  ·have ou':Out G Hi H (if noL d=true then Res.ok d else .no) _:=ou
   rw [if_neg hz] at ou';exact ou'.elim
end
end L3
namespace L3
open PySem PySem.Spec PyProof.Rows L2
unseal PEd PEf PTd PWd PAd PSd dC
section
variable {X:Cx} {G:Gx} {a b e:Expr} {es:List Expr} {pos:Pos} {f g:Ev} {fs:Fv} {t u:Tv}
theorem OpR.or {o:Value->Value->Sem Value} {r r':R2} (h:OpR X o r) (h':OpR X o r'):OpR X o (fun x y H Q=>r x y H Q∨r' x y H Q):=by
 intro pins s σ H x y v u Q I rx ry q
 rcases q with q | q
 ·exact h pins s σ H x y v u Q I rx ry q
 ·exact h' pins s σ H x y v u Q I rx ry q
theorem zLV {o:Op2} {h:Int->Int->Int} (hi:∀ i j,o (.int i) (.int j)=.ok (.int (h i j))) (hn:∀ a b d,o a b=.ok d->∃ i j,a=.int i/\b=.int j) (he:∀ a b c,o a b≠.err c):OpK X (rI0 fun i j=>.int (h i j)) o:=
 ⟨he,fun Hi H x y a b d Q s r1 r2 z q=>by
  obtain ⟨i,j,rfl,rfl⟩:=hn a b d z
  rw [hi] at z;cases z
  exact ⟨i,j,r1.intI,r2.intI,q _ Hi H (Ext.refl s) (.int _)⟩⟩
theorem zJj {o:Op2} {h:Int->Int->Bool} (hi:∀ i j,o (.int i) (.int j)=.ok (.bl (h i j))) (hn:∀ a b d,o a b=.ok d->∃ i j,a=.int i/\b=.int j) (he:∀ a b c,o a b≠.err c):OpK X (rI0 fun i j=>.bl (h i j)) o:=
 ⟨he,fun Hi H x y a b d Q s r1 r2 z q=>by
  obtain ⟨i,j,rfl,rfl⟩:=hn a b d z
  rw [hi] at z;cases z
  exact ⟨i,j,r1.intI,r2.intI,q _ Hi H (Ext.refl s) (.bl _)⟩⟩
theorem pJ:OpK X (rI0 fun i j=>.int (i - j)) sD:=zLV (fun _ _=>rfl) (fun a b d z=>by unfold sD at z;split at z<;>first | exact ⟨_,_,rfl,rfl⟩ | cases z) (fun a b c z=>by unfold sD at z;split at z<;>cases z)
theorem zHt:OpK X (rI0 fun i j=>.bl (decide (i < j))) oLt:=zJj (fun _ _=>rfl) (fun a b d z=>by unfold oLt at z;split at z<;>first | exact ⟨_,_,rfl,rfl⟩ | cases z) (fun a b c z=>by unfold oLt at z;split at z<;>cases z)
theorem zNo:OpK X (rI0 fun i j=>.bl (decide (j < i))) oGt:=zJj (fun _ _=>rfl) (fun a b d z=>by unfold oGt at z;split at z<;>first | exact ⟨_,_,rfl,rfl⟩ | cases z) (fun a b c z=>by unfold oGt at z;split at z<;>cases z)
theorem zHy {o:Op2} {C:Int->Int->Prop} {h:Int->Int->Int} (hn:∀ a b d,o a b=.ok d->∃ i j,a=.int i/\b=.int j/\C i j/\d=.int (h i j)) (he:∀ a b c,o a b≠.err c):OpK X (rI C fun i j=>.int (h i j)) o:=
 ⟨he,fun Hi H x y a b d Q s r1 r2 z q=>by
  obtain ⟨i,j,rfl,rfl,hc,rfl⟩:=hn a b d z
  exact ⟨i,j,r1.intI,r2.intI,hc,q _ Hi H (Ext.refl s) (.int _)⟩⟩
def zMV (i j:Int):Prop:=iP i j=true
theorem bR:OpR X (binaryOp .Mult) (rI zMV fun i j=>.int (i * j)):=opI fun i j _ _ _ _ _ hc q=>by
 have hc':iP i j=true:=hc
 unfold iP at hc'
 simp only [Bool.or_eq_true,Bool.and_eq_true,decide_eq_true_eq] at hc'
 rcases hc' with (⟨h1,h2⟩ | ⟨h1,h2⟩) | h
 ·exact mul_int q (zNT.ok (.inl ⟨h1,h2⟩))
 ·exact mul_int q (zNT.ok (.inr ⟨h1,h2⟩))
 ·exact mul_int q (PySem.IntMulOk.of_le (PySem.intBits_le_iff.mpr (zLe i)) (PySem.intBits_le_iff.mpr (zLe j)) h)
def zMX (_ j:Int):Prop:=kF j=true
theorem mX:OpR X (binaryOp .FloorDiv) (rI zMX fun i j=>.int (i.fdiv j)):=opI fun i j _ _ _ _ _ hc q=>by
 have hc':kF j=true:=hc
 unfold kF at hc'
 simp only [Bool.and_eq_true,decide_eq_true_eq] at hc'
 refine floordiv_int hc'.1 q (.inl (PyProof.noPylong_of_log2 ?_))
 have h2:=hc'.2
 unfold nb at h2
 omega
def zMK (i j:Int):Prop:=sX i j=true
theorem zEJ:OpR X (binaryOp .Pow) (rI zMK fun i j=>.int (i^j.toNat)):=opI fun i j _ _ _ _ _ hc q=>by
 have hc':sX i j=true:=hc
 unfold sX at hc'
 simp only [Bool.and_eq_true,decide_eq_true_eq] at hc'
 refine pow_int hc'.1 (Int.le_trans (Int.mul_le_mul_of_nonneg_right ?_ hc'.1) hc'.2) q
 have:=PySem.intBits_le_iff.mpr (zLe i)
 omega
theorem gG:OpK X (rI zMV fun i j=>.int (i * j)) oV:=zHy (fun a b d z=>by
 unfold oV at z
 split at z
 case h_2=>cases z
 rename_i i j
 have z':(if iP i j=true then Res.ok (D.int (i * j)) else .no)=.ok d:=z
 by_cases h:iP i j=true
 ·rw [if_pos h] at z';cases z';exact ⟨i,j,rfl,rfl,h,rfl⟩
 ·rw [if_neg h] at z';cases z') (fun a b c z=>by
 unfold oV at z
 split at z
 case h_2=>cases z
 rename_i i j
 have z':(if iP i j=true then Res.ok (D.int (i * j)) else .no)=.err c:=z
 by_cases h:iP i j=true
 ·rw [if_pos h] at z';cases z'
 ·rw [if_neg h] at z';cases z')
theorem zDQ:OpK X (rI zMX fun i j=>.int (i.fdiv j)) zHs:=zHy (fun a b d z=>by
 unfold zHs at z
 split at z
 case h_2=>cases z
 rename_i i j
 have z':(if kF j=true then Res.ok (D.int (i.fdiv j)) else .no)=.ok d:=z
 by_cases h:kF j=true
 ·rw [if_pos h] at z';cases z';exact ⟨i,j,rfl,rfl,h,rfl⟩
 ·rw [if_neg h] at z';cases z') (fun a b c z=>by
 unfold zHs at z
 split at z
 case h_2=>cases z
 rename_i i j
 have z':(if kF j=true then Res.ok (D.int (i.fdiv j)) else .no)=.err c:=z
 by_cases h:kF j=true
 ·rw [if_pos h] at z';cases z'
 ·rw [if_neg h] at z';cases z')
theorem zAH:OpK X (rI (fun _ j=>j≠0) fun i j=>.int (i.fmod j)) zEs:=zHy (fun a b d z=>by
 unfold zEs at z
 split at z
 case h_2=>cases z
 rename_i i j
 have z':(if j≠0 then Res.ok (D.int (i.fmod j)) else .no)=.ok d:=z
 by_cases h:j≠0
 ·rw [if_pos h] at z';cases z';exact ⟨i,j,rfl,rfl,h,rfl⟩
 ·rw [if_neg h] at z';cases z') (fun a b c z=>by
 unfold zEs at z
 split at z
 case h_2=>cases z
 rename_i i j
 have z':(if j≠0 then Res.ok (D.int (i.fmod j)) else .no)=.err c:=z
 by_cases h:j≠0
 ·rw [if_pos h] at z';cases z'
 ·rw [if_neg h] at z';cases z')
theorem zMy:OpK X (rI zMK fun i j=>.int (i^j.toNat)) zLA:=zHy (fun a b d z=>by
 unfold zLA at z
 split at z
 case h_2=>cases z
 rename_i i j
 have z':(if sX i j=true then Res.ok (D.int (i^j.toNat)) else .no)=.ok d:=z
 by_cases h:sX i j=true
 ·rw [if_pos h] at z';cases z';exact ⟨i,j,rfl,rfl,h,rfl⟩
 ·rw [if_neg h] at z';cases z') (fun a b c z=>by
 unfold zLA at z
 split at z
 case h_2=>cases z
 rename_i i j
 have z':(if sX i j=true then Res.ok (D.int (i^j.toNat)) else .no)=.err c:=z
 by_cases h:sX i j=true
 ·rw [if_pos h] at z';cases z'
 ·rw [if_neg h] at z';cases z')
def zLD (K:PySem.W.Frag):R2:=fun x y H Q=>∃ a b ys,x=.ref a/\y=.ref b/\SqT K H a []/\SqT K H b ys/\Q (.ref b) H
theorem zKJ:OpR X (binaryOp .Add) (zLD X.K):=by
 intro pins s σ H x y v u Q I rx ry h
 obtain ⟨a,b,ys,rfl,rfl,ha,hb,q⟩:=h
 cases rx
 cases ry
 obtain ⟨its,r1,p1,_⟩:=I.tuple ha
 obtain ⟨its2,r2,p2,_⟩:=I.tuple hb
 cases r1
 obtain ⟨⟨c1,d1,t1,s1⟩,ho1,hc1,n1,hd1⟩:=id p1
 obtain ⟨⟨c2,d2,t2,s2⟩,ho2,hc2,n2,hd2⟩:=id p2
 simp only at hc1 hd1 hc2 hd2
 subst hc1 hd1 hc2 hd2
 exact concat_meets ⟨_,ho1,rfl⟩ ⟨_,ho2,rfl⟩ noFill_tuple_add seq_tuple_add PySem.F.slot_tuple_add PySem.F.entry_tuple_add (PySem.F.args_tuple_add_2 _ _) (tuple_addW0 a b #[] its2.toArray n1 n2 d1 d2 s1 s2 rfl) ⟨ho1,ho2,⟨.ref b,H,I,rfl,q⟩⟩
def zMf (K:PySem.W.Frag):R2:=fun x y H Q=>rI0 (fun i j=>.int (i+j)) x y H Q∨(zMl K x y H Q∨zLD K x y H Q)
theorem pD:OpR X (binaryOp .Add) (zMf X.K):=OpR.or zMh (OpR.or zKI zKJ)
theorem zEc:OpK X (zMf X.K) zHk:=⟨fun a b c z=>(by
  unfold zHk at z
  split at z
  case h_1=>cases z
  case h_3=>cases z
  rename_i as bs
  have z':(if as.length+bs.length<=16777216 then Res.ok (D.tup (as++bs)) else .no)=.err c:=z
  split at z'<;>cases z'),fun Hi H x y a b d Q s r1 r2 z q=>by
  unfold zHk at z
  split at z
  case h_3=>cases z
  ·cases z
   exact .inl ⟨_,_,r1.intI,r2.intI,q _ Hi H (Ext.refl s) (.int _)⟩
  ·rename_i as bs
   have z':(if as.length+bs.length<=16777216 then Res.ok (D.tup (as++bs)) else .no)=.ok d:=z
   split at z'
   ·rename_i hz
    cases z'
    obtain ⟨p,xs,rfl,h1,i1⟩:=r1.tupI
    obtain ⟨p',ys,rfl,h2,i2⟩:=r2.tupI
    by_cases h0:as.length=0
    ·have e0:as=[]:=List.eq_nil_of_length_eq_zero h0
     subst e0
     cases i1
     exact .inr (.inr ⟨p,p',ys,rfl,rfl,bP s h1,bP s h2,q _ Hi H (Ext.refl s) (.tup h2 i2)⟩)
    refine .inr (.inl ⟨p,p',xs,ys,rfl,rfl,bP s h1,bP s h2,fun e=>h0 (by rw [<-i1.length,e];rfl),by rw [i1.length,i2.length];exact hz,fun e=>?_,fun _ l hl=>?_⟩)
    ·subst e
     cases i2
     rw [List.append_nil] at q
     exact q _ Hi H (Ext.refl s) (.tup h1 i1)
    ·exact q _ _ _ (Ext.new s hl) (.tup (SqT.of aR) ((i1.append i2).mono (cG (s.none hl) _)))
   ·cases z'⟩
theorem zKG {α:Type} {xs:List α} {i:Int} {v:α} (h0:i < 0) (h1:0<=(xs.length:Int)+i) (h:xs[((xs.length:Int)+i).toNat]?=some v):atI xs i=some v:=by
 have e:ixN xs.length i=some ((xs.length:Int)+i).toNat:=by
  unfold ixN
  rw [if_neg (by omega),if_pos (by omega)]
  congr 2
  omega
 unfold atI;rw [e];exact h
theorem zED {K:PySem.W.Frag} {H:Hp} {xs:List V} {ds:List D} {i:Int} {d:D} (h:IsDs K H xs ds) (e:atD ds i=some d):∃ v,atI xs i=some v/\IsD K H v d:=by
 unfold atD at e
 by_cases h0:0<=i
 ·rw [if_pos h0] at e
  obtain ⟨v,hv,r⟩:=h.at e
  refine ⟨v,?_,r⟩
  have:=zBC hv
  rw [show ((i.toNat:Nat):Int)=i by omega] at this
  exact this
 ·rw [if_neg h0] at e
  by_cases h1:0<=(ds.length:Int)+i
  ·rw [if_pos h1] at e
   obtain ⟨v,hv,r⟩:=h.at e
   refine ⟨v,?_,r⟩
   have hl:=h.length
   have e2:((ds.length:Int)+i).toNat=((xs.length:Int)+i).toNat:=by rw [hl]
   rw [e2] at hv
   exact zKG (by omega) (by omega) hv
  ·rw [if_neg h1] at e;cases e
theorem jI:OpK X (fun x y H Q=>zNU X.K x y H Q∨zNW X.K x y H Q) oIx:=⟨fun a b c z=>(by
  unfold oIx at z
  split at z
  case h_3=>cases z
  ·rename_i ds i
   have z':ofO (atD ds i)=Res.err c:=z
   cases q:atD ds i<;>rw [q] at z'<;>cases z'
  ·rename_i ds i
   have z':ofO (atD ds i)=Res.err c:=z
   cases q:atD ds i<;>rw [q] at z'<;>cases z'),fun Hi H x y a b d Q s r1 r2 z q=>by
  unfold oIx at z
  split at z
  case h_3=>cases z
  ·rename_i ds i
   have z':ofO (atD ds i)=Res.ok d:=z
   cases w:atD ds i with
   | none=>rw [w] at z';cases z'
   | some d'=>
    rw [w] at z';cases z'
    obtain ⟨p,xs,rfl,h1,i1⟩:=r1.tupI
    obtain ⟨v,hv,r⟩:=zED i1 w
    exact .inr ⟨p,xs,i,v,rfl,r2.intI,bP s h1,hv,q v Hi H (Ext.refl s) r⟩
  ·rename_i ds i
   have z':ofO (atD ds i)=Res.ok d:=z
   cases w:atD ds i with
   | none=>rw [w] at z';cases z'
   | some d'=>
    rw [w] at z';cases z'
    obtain ⟨p,xs,rfl,h1,i1⟩:=r1.lstI
    obtain ⟨v,hv,r⟩:=zED i1 w
    exact .inl ⟨p,xs,i,v,rfl,r2.intI,cK s h1,hv,q v Hi H (Ext.refl s) r⟩⟩
theorem aU:IxR X (fun x y H Q=>zNU X.K x y H Q∨zNW X.K x y H Q):=zKM.or zNs
end
end L3
namespace L3
open PySem PySem.Spec PyProof.Rows L2
unseal PEd PEf PTd PWd PAd PSd dC
section
variable {X:Cx} {pins:List (Addr×Obj)} {σ:St} {H:Hp} {s:Shared}
mutual
theorem IsD.inj (I:Inv X pins σ H s):∀ {v:V} {d e:D},IsD X.K H v d->IsD X.K H v e->d=e
 | _,_,_,.non,h=>by cases h;rfl
 | _,_,_,.bl b,h=>by cases h;rfl
 | _,_,_,.int i,h=>by cases h;rfl
 | _,_,_,.str x,h=>by cases h;rfl
 | _,_,_,.tup h hs,h2=>by
  cases h2 with
  | tup h' hs'=>
   have e:=I.tuple_inj h h'
   subst e
   rw [IsDs.inj I hs hs']
  | lst h' hs'=>
   exfalso
   obtain ⟨_,_,⟨o,e,c,_⟩,_⟩:=I.tuple h
   obtain ⟨_,_,⟨o',n',e',c',_⟩,_⟩:=I.list h'
   rw [e] at e';cases e';rw [c] at c';exact absurd c' (by decide)
 | _,_,_,.lst h hs,h2=>by
  cases h2 with
  | lst h' hs'=>
   have e:=I.list_inj h h'
   subst e
   rw [IsDs.inj I hs hs']
  | tup h' hs'=>
   exfalso
   obtain ⟨_,_,⟨o,e,c,_⟩,_⟩:=I.tuple h'
   obtain ⟨_,_,⟨o',n',e',c',_⟩,_⟩:=I.list h
   rw [e] at e';cases e';rw [c] at c';exact absurd c' (by decide)
theorem IsDs.inj (I:Inv X pins σ H s):∀ {vs:List V} {ds es:List D},IsDs X.K H vs ds->IsDs X.K H vs es->ds=es
 | _,_,_,.nil,h=>by cases h;rfl
 | _,_,_,.cons h hs,h2=>by
  cases h2 with
  | cons h' hs'=>rw [IsD.inj I h h',IsDs.inj I hs hs']
end
theorem zFu {α:Type} {l:List α} {j:Nat} {x d:α} (h:l[j]?=some x):l.getD j d=x:=by
 rw [List.getD_eq_getElem?_getD,h];rfl
theorem lP {A:Around} {xs xs':List V} {ds ds':List D} {its its':List Value} (hs:IsDs X.K H xs ds) (hs':IsDs X.K H xs' ds') (rv:cX xs its) (rv':cX xs' its')
  (rc:∀ (d d':D) (v v':V) (u u':Value),d∈ds->IsD X.K H v d->IsD X.K H v' d'->cP v u->cP v' u'->SeqAt.EqAt A s u u' (eqD d d'))
  (j:Nat) (g1:j < its.toArray.size) (g2:j < its'.toArray.size):SeqAt.EqAt A s its.toArray[j] its'.toArray[j] (eqD (ds.getD j .non) (ds'.getD j .non)):=by
 have g1':j < its.length:=by simpa using g1
 have g2':j < its'.length:=by simpa using g2
 have l1:its.length=ds.length:=by rw [<-rv.length,hs.length]
 have l2:its'.length=ds'.length:=by rw [<-rv'.length,hs'.length]
 obtain ⟨d,hd⟩:∃ d,ds[j]?=some d:=⟨_,List.getElem?_eq_getElem (by omega)⟩
 obtain ⟨d',hd'⟩:∃ d,ds'[j]?=some d:=⟨_,List.getElem?_eq_getElem (by omega)⟩
 obtain ⟨v,hv,iv⟩:=hs.at hd
 obtain ⟨v',hv',iv'⟩:=hs'.at hd'
 obtain ⟨w1,hw,rw1⟩:=rv.get hv
 obtain ⟨w2,hw',rw2⟩:=rv'.get hv'
 have e1:its.toArray[j]=w1:=by
  rw [List.getElem?_eq_getElem g1'] at hw
  simpa using hw
 have e2:its'.toArray[j]=w2:=by
  rw [List.getElem?_eq_getElem g2'] at hw'
  simpa using hw'
 rw [e1,e2,zFu hd,zFu hd']
 exact rc d d' v v' w1 w2 (List.mem_of_getElem? hd) iv iv' rw1 rw2
theorem hJ {ds ds':List D} (h:ds.length=ds'.length):((List.range ds.length).all fun j=>eqD (ds.getD j .non) (ds'.getD j .non))=zFA ds ds':=by
 rw [lR,<-h,Nat.min_self];simp
theorem yY {ds ds':List D} (h:ds.length≠ds'.length):zFA ds ds'=false:=by
 rw [lR];simp [h]
theorem zAS (I:Inv X pins σ H s) {A:Around} {v v':V} {d d':D} {u u':Value} (h1:IsD X.K H v d) (h2:IsD X.K H v' d') (r1:cP v u) (r2:cP v' u') (hu:A.units < cLine)
  (rc:∀ ds,(d=.tup ds∨d=.lst ds)->∀ (e e':D) (w w':V) (z z':Value),e∈ds->IsD X.K H w e->IsD X.K H w' e'->cP w z->cP w' z'->SeqAt.EqAt A.in1 s z z' (eqD e e')):
  SeqAt.EqAt A s u u' (eqD d d'):=by
 cases h1 with
 | non=>
  cases (show u=Value.none from r1)
  cases h2 with
  | non=>cases (show u'=Value.none from r2);exact SeqAt.EqAt.same _
  | bl b=>cases (show u'=Value.bool _ from r2);exact SeqAt.EqAt.none_bool _
  | int i=>obtain ⟨t,rfl⟩:=r2;exact SeqAt.EqAt.none_int _ _
  | str x=>obtain ⟨t,rfl⟩:=r2;exact SeqAt.EqAt.none_str _ _
  | tup h hs=>cases (show u'=Value.ref _ from r2);obtain ⟨its,rv,p,hz⟩:=I.tuple h;exact SeqAt.EqAt.none_tuple (show s.heap.IsTuple _ its.toArray from p) hu
  | lst h hs=>cases (show u'=Value.ref _ from r2);obtain ⟨its,rv,p,hz⟩:=I.list h;exact SeqAt.EqAt.none_list p.isList hu
 | bl b=>
  cases (show u=Value.bool _ from r1)
  cases h2 with
  | non=>cases (show u'=Value.none from r2);exact SeqAt.EqAt.bool_none _
  | bl b=>cases (show u'=Value.bool _ from r2);exact SeqAt.EqAt.bool_bool _ _
  | int i=>obtain ⟨t,rfl⟩:=r2;exact SeqAt.EqAt.bool_int _ _ _
  | str x=>obtain ⟨t,rfl⟩:=r2;exact SeqAt.EqAt.bool_str _ _ _
  | tup h hs=>cases (show u'=Value.ref _ from r2);obtain ⟨its,rv,p,hz⟩:=I.tuple h;exact SeqAt.EqAt.bool_tuple _ (show s.heap.IsTuple _ its.toArray from p) hu
  | lst h hs=>cases (show u'=Value.ref _ from r2);obtain ⟨its,rv,p,hz⟩:=I.list h;exact SeqAt.EqAt.bool_list _ p.isList hu
 | int i=>
  obtain ⟨t,rfl⟩:=r1
  cases h2 with
  | non=>cases (show u'=Value.none from r2);exact SeqAt.EqAt.int_none _ _
  | bl b=>cases (show u'=Value.bool _ from r2);exact SeqAt.EqAt.int_bool _ _ _
  | int i=>obtain ⟨t,rfl⟩:=r2;exact SeqAt.EqAt.int_int _ _ _ _
  | str x=>obtain ⟨t,rfl⟩:=r2;exact SeqAt.EqAt.int_str _ _ _ _
  | tup h hs=>cases (show u'=Value.ref _ from r2);obtain ⟨its,rv,p,hz⟩:=I.tuple h;exact SeqAt.EqAt.int_tuple _ _ (show s.heap.IsTuple _ its.toArray from p) hu
  | lst h hs=>cases (show u'=Value.ref _ from r2);obtain ⟨its,rv,p,hz⟩:=I.list h;exact SeqAt.EqAt.int_list _ _ p.isList hu
 | str x=>
  obtain ⟨t,rfl⟩:=r1
  cases h2 with
  | non=>cases (show u'=Value.none from r2);exact SeqAt.EqAt.str_none _ _
  | bl b=>cases (show u'=Value.bool _ from r2);exact SeqAt.EqAt.str_bool _ _ _
  | int i=>obtain ⟨t,rfl⟩:=r2;exact SeqAt.EqAt.str_int _ _ _ _
  | str x=>obtain ⟨t,rfl⟩:=r2;exact SeqAt.EqAt.str_str _ _ _ _
  | tup h hs=>cases (show u'=Value.ref _ from r2);obtain ⟨its,rv,p,hz⟩:=I.tuple h;exact SeqAt.EqAt.str_tuple _ _ (show s.heap.IsTuple _ its.toArray from p) hu
  | lst h hs=>cases (show u'=Value.ref _ from r2);obtain ⟨its,rv,p,hz⟩:=I.list h;exact SeqAt.EqAt.str_list _ _ p.isList hu
 | @tup a xs ds h hs=>
  cases (show u=Value.ref a from r1)
  obtain ⟨its,rv,p,hz⟩:=I.tuple h
  cases h2 with
  | non=>cases (show u'=Value.none from r2);exact SeqAt.EqAt.tuple_none (show s.heap.IsTuple _ its.toArray from p) hu
  | bl b=>cases (show u'=Value.bool _ from r2);exact SeqAt.EqAt.tuple_bool _ (show s.heap.IsTuple _ its.toArray from p) hu
  | int i=>obtain ⟨t,rfl⟩:=r2;exact SeqAt.EqAt.tuple_int _ _ (show s.heap.IsTuple _ its.toArray from p) hu
  | str x=>obtain ⟨t,rfl⟩:=r2;exact SeqAt.EqAt.tuple_str _ _ (show s.heap.IsTuple _ its.toArray from p) hu
  | @tup a' xs' ds' h' hs'=>
   cases (show u'=Value.ref a' from r2)
   by_cases e:a=a'
   ·subst e
    have e:=I.tuple_inj h h'
    subst e
    have e:=IsDs.inj I hs hs'
    subst e
    rw [oU]
    exact SeqAt.EqAt.same _
   ·obtain ⟨its',rv',p',hz'⟩:=I.tuple h'
    have l1:its.toArray.size=ds.length:=by rw [List.size_toArray,<-rv.length,hs.length]
    have l2:its'.toArray.size=ds'.length:=by rw [List.size_toArray,<-rv'.length,hs'.length]
    have key:=SeqAt.RcAt.tuples (A:=A) (s:=s) (show s.heap.IsTuple a its.toArray from p) (show s.heap.IsTuple a' its'.toArray from p') hu
     (lP (A:=A.in1) (s:=s) hs hs' rv rv' fun d d' v v' u u' hm iv iv' r r'=>rc ds (.inl rfl) d d' v v' u u' hm iv iv' r r')
    rw [l1,l2,<-lR] at key
    exact SeqAt.EqAt.of_refs e key
  | @lst a' xs' ds' h' hs'=>
   cases (show u'=Value.ref a' from r2)
   obtain ⟨its',rv',p',hz'⟩:=I.list h'
   exact SeqAt.EqAt.tuple_list (show s.heap.IsTuple _ its.toArray from p) p'.isList hu
 | @lst a xs ds h hs=>
  cases (show u=Value.ref a from r1)
  obtain ⟨its,rv,p,hz⟩:=I.list h
  cases h2 with
  | non=>cases (show u'=Value.none from r2);exact SeqAt.EqAt.list_none p.isList hu
  | bl b=>cases (show u'=Value.bool _ from r2);exact SeqAt.EqAt.list_bool _ p.isList hu
  | int i=>obtain ⟨t,rfl⟩:=r2;exact SeqAt.EqAt.list_int _ _ p.isList hu
  | str x=>obtain ⟨t,rfl⟩:=r2;exact SeqAt.EqAt.list_str _ _ p.isList hu
  | @tup a' xs' ds' h' hs'=>
   cases (show u'=Value.ref a' from r2)
   obtain ⟨its',rv',p',hz'⟩:=I.tuple h'
   exact SeqAt.EqAt.list_tuple p.isList (show s.heap.IsTuple _ its'.toArray from p') hu
  | @lst a' xs' ds' h' hs'=>
   cases (show u'=Value.ref a' from r2)
   by_cases e:a=a'
   ·subst e
    have e:=I.list_inj h h'
    subst e
    have e:=IsDs.inj I hs hs'
    subst e
    rw [oU]
    exact SeqAt.EqAt.same _
   ·obtain ⟨its',rv',p',hz'⟩:=I.list h'
    have l1:its.toArray.size=ds.length:=by rw [List.size_toArray,<-rv.length,hs.length]
    have l2:its'.toArray.size=ds'.length:=by rw [List.size_toArray,<-rv'.length,hs'.length]
    by_cases hl:ds.length=ds'.length
    ·have key:=SeqAt.RcAt.lists (A:=A) (s:=s) p.isList p'.isList (by rw [l1,l2,hl]) hu
      (lP (A:=A.in1) (s:=s) hs hs' rv rv' fun d d' v v' u u' hm iv iv' r r'=>rc ds (.inr rfl) d d' v v' u u' hm iv iv' r r')
     rw [l1,hJ hl] at key
     exact SeqAt.EqAt.of_refs e key
    ·have key:=SeqAt.RcAt.lists_lengths (A:=A) (s:=s) p.isList p'.isList (by rw [l1,l2];simp [hl]) hu
     rw [eqD,yY hl]
     exact SeqAt.EqAt.of_refs e key
theorem zGp (I:Inv X pins σ H s) (n:Nat):∀ {v v':V} {d d':D},dep d<=n->IsD X.K H v d->IsD X.K H v' d'->
  ∀ (A:Around) (u u':Value),A.units+n < cLine->cP v u->cP v' u'->SeqAt.EqAt A s u u' (eqD d d'):=by
 induction n with
 | zero=>
  intro v v' d d' hn h1 h2 A u u' hu r1 r2
  refine zAS I h1 h2 r1 r2 (by omega) fun ds hd=>?_
  rcases hd with rfl | rfl<;>(rw [dep] at hn;omega)
 | succ n ih=>
  intro v v' d d' hn h1 h2 A u u' hu r1 r2
  refine zAS I h1 h2 r1 r2 (by omega) fun ds hd e e' w w' z z' hm i1 i2 q1 q2=>?_
  refine ih ?_ i1 i2 A.in1 z z' (by show A.units+1+n < cLine;omega) q1 q2
  have:=pB hm
  rcases hd with rfl | rfl<;>(rw [dep] at hn;omega)
theorem zER (I:Inv X pins σ H s) {A:Around} {v v':V} {d d':D} {u u':Value} (h1:IsD X.K H v d) (h2:IsD X.K H v' d') (r1:cP v u) (r2:cP v' u') (hu:A.units < cLine)
  (rc:∀ ds,(d=.tup ds∨d=.lst ds)->∀ (e e':D) (w w':V) (z z':Value),e∈ds->IsD X.K H w e->IsD X.K H w' e'->cP w z->cP w' z'->SeqAt.EqAt A.in1 s z z' (eqD e e')):
  SeqAt.RcAt A s u u' (eqD d d'):=by
 cases h1 with
 | non=>
  cases (show u=Value.none from r1)
  cases h2 with
  | non=>cases (show u'=Value.none from r2);exact SeqAt.RcAt.none_none
  | bl b=>cases (show u'=Value.bool _ from r2);exact SeqAt.RcAt.none_bool _
  | int i=>obtain ⟨t,rfl⟩:=r2;exact SeqAt.RcAt.none_int _ _
  | str x=>obtain ⟨t,rfl⟩:=r2;exact SeqAt.RcAt.none_str _ _
  | tup h hs=>cases (show u'=Value.ref _ from r2);obtain ⟨its,rv,p,hz⟩:=I.tuple h;exact SeqAt.RcAt.none_tuple (show s.heap.IsTuple _ its.toArray from p) hu
  | lst h hs=>cases (show u'=Value.ref _ from r2);obtain ⟨its,rv,p,hz⟩:=I.list h;exact SeqAt.RcAt.none_list p.isList hu
 | bl b=>
  cases (show u=Value.bool _ from r1)
  cases h2 with
  | non=>cases (show u'=Value.none from r2);exact SeqAt.RcAt.bool_none _
  | bl b=>cases (show u'=Value.bool _ from r2);exact SeqAt.RcAt.bool_bool _ _
  | int i=>obtain ⟨t,rfl⟩:=r2;exact SeqAt.RcAt.bool_int _ _ _
  | str x=>obtain ⟨t,rfl⟩:=r2;exact SeqAt.RcAt.bool_str _ _ _
  | tup h hs=>cases (show u'=Value.ref _ from r2);obtain ⟨its,rv,p,hz⟩:=I.tuple h;exact SeqAt.RcAt.bool_tuple _ (show s.heap.IsTuple _ its.toArray from p) hu
  | lst h hs=>cases (show u'=Value.ref _ from r2);obtain ⟨its,rv,p,hz⟩:=I.list h;exact SeqAt.RcAt.bool_list _ p.isList hu
 | int i=>
  obtain ⟨t,rfl⟩:=r1
  cases h2 with
  | non=>cases (show u'=Value.none from r2);exact SeqAt.RcAt.int_none _ _
  | bl b=>cases (show u'=Value.bool _ from r2);exact SeqAt.RcAt.int_bool _ _ _
  | int i=>obtain ⟨t,rfl⟩:=r2;exact SeqAt.RcAt.int_int _ _ _ _
  | str x=>obtain ⟨t,rfl⟩:=r2;exact SeqAt.RcAt.int_str _ _ _ _
  | tup h hs=>cases (show u'=Value.ref _ from r2);obtain ⟨its,rv,p,hz⟩:=I.tuple h;exact SeqAt.RcAt.int_tuple _ _ (show s.heap.IsTuple _ its.toArray from p) hu
  | lst h hs=>cases (show u'=Value.ref _ from r2);obtain ⟨its,rv,p,hz⟩:=I.list h;exact SeqAt.RcAt.int_list _ _ p.isList hu
 | str x=>
  obtain ⟨t,rfl⟩:=r1
  cases h2 with
  | non=>cases (show u'=Value.none from r2);exact SeqAt.RcAt.str_none _ _
  | bl b=>cases (show u'=Value.bool _ from r2);exact SeqAt.RcAt.str_bool _ _ _
  | int i=>obtain ⟨t,rfl⟩:=r2;exact SeqAt.RcAt.str_int _ _ _ _
  | str x=>obtain ⟨t,rfl⟩:=r2;exact SeqAt.RcAt.str_str _ _ _ _
  | tup h hs=>cases (show u'=Value.ref _ from r2);obtain ⟨its,rv,p,hz⟩:=I.tuple h;exact SeqAt.RcAt.str_tuple _ _ (show s.heap.IsTuple _ its.toArray from p) hu
  | lst h hs=>cases (show u'=Value.ref _ from r2);obtain ⟨its,rv,p,hz⟩:=I.list h;exact SeqAt.RcAt.str_list _ _ p.isList hu
 | @tup a xs ds h hs=>
  cases (show u=Value.ref a from r1)
  obtain ⟨its,rv,p,hz⟩:=I.tuple h
  cases h2 with
  | non=>cases (show u'=Value.none from r2);exact SeqAt.RcAt.tuple_none (show s.heap.IsTuple _ its.toArray from p) hu
  | bl b=>cases (show u'=Value.bool _ from r2);exact SeqAt.RcAt.tuple_bool _ (show s.heap.IsTuple _ its.toArray from p) hu
  | int i=>obtain ⟨t,rfl⟩:=r2;exact SeqAt.RcAt.tuple_int _ _ (show s.heap.IsTuple _ its.toArray from p) hu
  | str x=>obtain ⟨t,rfl⟩:=r2;exact SeqAt.RcAt.tuple_str _ _ (show s.heap.IsTuple _ its.toArray from p) hu
  | @tup a' xs' ds' h' hs'=>
   cases (show u'=Value.ref a' from r2)
   ·obtain ⟨its',rv',p',hz'⟩:=I.tuple h'
    have l1:its.toArray.size=ds.length:=by rw [List.size_toArray,<-rv.length,hs.length]
    have l2:its'.toArray.size=ds'.length:=by rw [List.size_toArray,<-rv'.length,hs'.length]
    have key:=SeqAt.RcAt.tuples (A:=A) (s:=s) (show s.heap.IsTuple a its.toArray from p) (show s.heap.IsTuple a' its'.toArray from p') hu
     (lP (A:=A.in1) (s:=s) hs hs' rv rv' fun d d' v v' u u' hm iv iv' r r'=>rc ds (.inl rfl) d d' v v' u u' hm iv iv' r r')
    rw [l1,l2,<-lR] at key
    exact key
  | @lst a' xs' ds' h' hs'=>
   cases (show u'=Value.ref a' from r2)
   obtain ⟨its',rv',p',hz'⟩:=I.list h'
   exact SeqAt.RcAt.tuple_list (show s.heap.IsTuple _ its.toArray from p) p'.isList hu
 | @lst a xs ds h hs=>
  cases (show u=Value.ref a from r1)
  obtain ⟨its,rv,p,hz⟩:=I.list h
  cases h2 with
  | non=>cases (show u'=Value.none from r2);exact SeqAt.RcAt.list_none p.isList hu
  | bl b=>cases (show u'=Value.bool _ from r2);exact SeqAt.RcAt.list_bool _ p.isList hu
  | int i=>obtain ⟨t,rfl⟩:=r2;exact SeqAt.RcAt.list_int _ _ p.isList hu
  | str x=>obtain ⟨t,rfl⟩:=r2;exact SeqAt.RcAt.list_str _ _ p.isList hu
  | @tup a' xs' ds' h' hs'=>
   cases (show u'=Value.ref a' from r2)
   obtain ⟨its',rv',p',hz'⟩:=I.tuple h'
   exact SeqAt.RcAt.list_tuple p.isList (show s.heap.IsTuple _ its'.toArray from p') hu
  | @lst a' xs' ds' h' hs'=>
   cases (show u'=Value.ref a' from r2)
   ·obtain ⟨its',rv',p',hz'⟩:=I.list h'
    have l1:its.toArray.size=ds.length:=by rw [List.size_toArray,<-rv.length,hs.length]
    have l2:its'.toArray.size=ds'.length:=by rw [List.size_toArray,<-rv'.length,hs'.length]
    by_cases hl:ds.length=ds'.length
    ·have key:=SeqAt.RcAt.lists (A:=A) (s:=s) p.isList p'.isList (by rw [l1,l2,hl]) hu
      (lP (A:=A.in1) (s:=s) hs hs' rv rv' fun d d' v v' u u' hm iv iv' r r'=>rc ds (.inr rfl) d d' v v' u u' hm iv iv' r r')
     rw [l1,hJ hl] at key
     exact key
    ·have key:=SeqAt.RcAt.lists_lengths (A:=A) (s:=s) p.isList p'.isList (by rw [l1,l2];simp [hl]) hu
     rw [eqD,yY hl]
     exact key
theorem zFL (I:Inv X pins σ H s) {A:Around} {v v':V} {d d':D} {u u':Value} (h1:IsD X.K H v d) (h2:IsD X.K H v' d') (r1:cP v u) (r2:cP v' u') (hu:A.units < cLine)
  (rc:∀ ds,(d=.tup ds∨d=.lst ds)->∀ (e e':D) (w w':V) (z z':Value),e∈ds->IsD X.K H w e->IsD X.K H w' e'->cP w z->cP w' z'->SeqAt.EqAt A.in1 s z z' (eqD e e')):
  SeqAt.RcNeAt A s u u' (!eqD d d'):=by
 cases h1 with
 | non=>
  cases (show u=Value.none from r1)
  cases h2 with
  | non=>cases (show u'=Value.none from r2);exact SeqAt.RcNeAt.none_none
  | bl b=>cases (show u'=Value.bool _ from r2);exact SeqAt.RcNeAt.none_bool _
  | int i=>obtain ⟨t,rfl⟩:=r2;exact SeqAt.RcNeAt.none_int _ _
  | str x=>obtain ⟨t,rfl⟩:=r2;exact SeqAt.RcNeAt.none_str _ _
  | tup h hs=>cases (show u'=Value.ref _ from r2);obtain ⟨its,rv,p,hz⟩:=I.tuple h;exact SeqAt.RcNeAt.none_tuple (show s.heap.IsTuple _ its.toArray from p) hu
  | lst h hs=>cases (show u'=Value.ref _ from r2);obtain ⟨its,rv,p,hz⟩:=I.list h;exact SeqAt.RcNeAt.none_list p.isList hu
 | bl b=>
  cases (show u=Value.bool _ from r1)
  cases h2 with
  | non=>cases (show u'=Value.none from r2);exact SeqAt.RcNeAt.bool_none _
  | bl b=>cases (show u'=Value.bool _ from r2);exact SeqAt.RcNeAt.bool_bool _ _
  | int i=>obtain ⟨t,rfl⟩:=r2;exact SeqAt.RcNeAt.bool_int _ _ _
  | str x=>obtain ⟨t,rfl⟩:=r2;exact SeqAt.RcNeAt.bool_str _ _ _
  | tup h hs=>cases (show u'=Value.ref _ from r2);obtain ⟨its,rv,p,hz⟩:=I.tuple h;exact SeqAt.RcNeAt.bool_tuple _ (show s.heap.IsTuple _ its.toArray from p) hu
  | lst h hs=>cases (show u'=Value.ref _ from r2);obtain ⟨its,rv,p,hz⟩:=I.list h;exact SeqAt.RcNeAt.bool_list _ p.isList hu
 | int i=>
  obtain ⟨t,rfl⟩:=r1
  cases h2 with
  | non=>cases (show u'=Value.none from r2);exact SeqAt.RcNeAt.int_none _ _
  | bl b=>cases (show u'=Value.bool _ from r2);exact SeqAt.RcNeAt.int_bool _ _ _
  | int i=>obtain ⟨t,rfl⟩:=r2;exact SeqAt.RcNeAt.int_int _ _ _ _
  | str x=>obtain ⟨t,rfl⟩:=r2;exact SeqAt.RcNeAt.int_str _ _ _ _
  | tup h hs=>cases (show u'=Value.ref _ from r2);obtain ⟨its,rv,p,hz⟩:=I.tuple h;exact SeqAt.RcNeAt.int_tuple _ _ (show s.heap.IsTuple _ its.toArray from p) hu
  | lst h hs=>cases (show u'=Value.ref _ from r2);obtain ⟨its,rv,p,hz⟩:=I.list h;exact SeqAt.RcNeAt.int_list _ _ p.isList hu
 | str x=>
  obtain ⟨t,rfl⟩:=r1
  cases h2 with
  | non=>cases (show u'=Value.none from r2);exact SeqAt.RcNeAt.str_none _ _
  | bl b=>cases (show u'=Value.bool _ from r2);exact SeqAt.RcNeAt.str_bool _ _ _
  | int i=>obtain ⟨t,rfl⟩:=r2;exact SeqAt.RcNeAt.str_int _ _ _ _
  | str x=>obtain ⟨t,rfl⟩:=r2;exact SeqAt.RcNeAt.str_str _ _ _ _
  | tup h hs=>cases (show u'=Value.ref _ from r2);obtain ⟨its,rv,p,hz⟩:=I.tuple h;exact SeqAt.RcNeAt.str_tuple _ _ (show s.heap.IsTuple _ its.toArray from p) hu
  | lst h hs=>cases (show u'=Value.ref _ from r2);obtain ⟨its,rv,p,hz⟩:=I.list h;exact SeqAt.RcNeAt.str_list _ _ p.isList hu
 | @tup a xs ds h hs=>
  cases (show u=Value.ref a from r1)
  obtain ⟨its,rv,p,hz⟩:=I.tuple h
  cases h2 with
  | non=>cases (show u'=Value.none from r2);exact SeqAt.RcNeAt.tuple_none (show s.heap.IsTuple _ its.toArray from p) hu
  | bl b=>cases (show u'=Value.bool _ from r2);exact SeqAt.RcNeAt.tuple_bool _ (show s.heap.IsTuple _ its.toArray from p) hu
  | int i=>obtain ⟨t,rfl⟩:=r2;exact SeqAt.RcNeAt.tuple_int _ _ (show s.heap.IsTuple _ its.toArray from p) hu
  | str x=>obtain ⟨t,rfl⟩:=r2;exact SeqAt.RcNeAt.tuple_str _ _ (show s.heap.IsTuple _ its.toArray from p) hu
  | @tup a' xs' ds' h' hs'=>
   cases (show u'=Value.ref a' from r2)
   ·obtain ⟨its',rv',p',hz'⟩:=I.tuple h'
    have l1:its.toArray.size=ds.length:=by rw [List.size_toArray,<-rv.length,hs.length]
    have l2:its'.toArray.size=ds'.length:=by rw [List.size_toArray,<-rv'.length,hs'.length]
    have key:=SeqAt.RcNeAt.tuples (A:=A) (s:=s) (show s.heap.IsTuple a its.toArray from p) (show s.heap.IsTuple a' its'.toArray from p') hu
     (lP (A:=A.in1) (s:=s) hs hs' rv rv' fun d d' v v' u u' hm iv iv' r r'=>rc ds (.inl rfl) d d' v v' u u' hm iv iv' r r')
    rw [l1,l2,<-lR] at key
    exact key
  | @lst a' xs' ds' h' hs'=>
   cases (show u'=Value.ref a' from r2)
   obtain ⟨its',rv',p',hz'⟩:=I.list h'
   exact SeqAt.RcNeAt.tuple_list (show s.heap.IsTuple _ its.toArray from p) p'.isList hu
 | @lst a xs ds h hs=>
  cases (show u=Value.ref a from r1)
  obtain ⟨its,rv,p,hz⟩:=I.list h
  cases h2 with
  | non=>cases (show u'=Value.none from r2);exact SeqAt.RcNeAt.list_none p.isList hu
  | bl b=>cases (show u'=Value.bool _ from r2);exact SeqAt.RcNeAt.list_bool _ p.isList hu
  | int i=>obtain ⟨t,rfl⟩:=r2;exact SeqAt.RcNeAt.list_int _ _ p.isList hu
  | str x=>obtain ⟨t,rfl⟩:=r2;exact SeqAt.RcNeAt.list_str _ _ p.isList hu
  | @tup a' xs' ds' h' hs'=>
   cases (show u'=Value.ref a' from r2)
   obtain ⟨its',rv',p',hz'⟩:=I.tuple h'
   exact SeqAt.RcNeAt.list_tuple p.isList (show s.heap.IsTuple _ its'.toArray from p') hu
  | @lst a' xs' ds' h' hs'=>
   cases (show u'=Value.ref a' from r2)
   ·obtain ⟨its',rv',p',hz'⟩:=I.list h'
    have l1:its.toArray.size=ds.length:=by rw [List.size_toArray,<-rv.length,hs.length]
    have l2:its'.toArray.size=ds'.length:=by rw [List.size_toArray,<-rv'.length,hs'.length]
    by_cases hl:ds.length=ds'.length
    ·have key:=SeqAt.RcNeAt.lists (A:=A) (s:=s) p.isList p'.isList (by rw [l1,l2,hl]) hu
      (lP (A:=A.in1) (s:=s) hs hs' rv rv' fun d d' v v' u u' hm iv iv' r r'=>rc ds (.inr rfl) d d' v v' u u' hm iv iv' r r')
     rw [l1,hJ hl] at key
     exact key
    ·have key:=SeqAt.RcNeAt.lists_lengths (A:=A) (s:=s) p.isList p'.isList (by rw [l1,l2];simp [hl]) hu
     rw [eqD,yY hl]
     exact key
theorem eqA {X:Cx} (hu:X.A.units+64 < cLine):OpR X (compareOp .Eq) (fun x y H Q=>∃ d d',IsD X.K H x d/\IsD X.K H y d'/\dep d<=50/\Q (.bl (eqD d d')) H):=by
 intro pins s σ H x y v u Q I rx ry h
 obtain ⟨d,d',h1,h2,hn,q⟩:=h
 refine zER I h1 h2 rx ry (by omega) (fun ds hd e e' w w' z z' hm i1 i2 q1 q2=>?_) X.prog X.w X.xe _ ⟨.bl _,H,I,rfl,q⟩
 refine zGp I 50 ?_ i1 i2 X.A.in1 z z' (by show X.A.units+1+50 < cLine;omega) q1 q2
 have:=pB hm
 rcases hd with rfl | rfl<;>(rw [dep] at hn;omega)
theorem neA {X:Cx} (hu:X.A.units+64 < cLine):OpR X (compareOp .NotEq) (fun x y H Q=>∃ d d',IsD X.K H x d/\IsD X.K H y d'/\dep d<=50/\Q (.bl (!eqD d d')) H):=by
 intro pins s σ H x y v u Q I rx ry h
 obtain ⟨d,d',h1,h2,hn,q⟩:=h
 refine zFL I h1 h2 rx ry (by omega) (fun ds hd e e' w w' z z' hm i1 i2 q1 q2=>?_) X.prog X.w X.xe _ ⟨.bl _,H,I,rfl,q⟩
 refine zGp I 50 ?_ i1 i2 X.A.in1 z z' (by show X.A.units+1+50 < cLine;omega) q1 q2
 have:=pB hm
 rcases hd with rfl | rfl<;>(rw [dep] at hn;omega)
theorem yV {X:Cx}:OpK X (fun x y H Q=>∃ d d',IsD X.K H x d/\IsD X.K H y d'/\dep d<=50/\Q (.bl (eqD d d')) H) oEq:=⟨fun a b c z=>(by
  unfold oEq at z;split at z<;>cases z),fun Hi H x y a b d Q s r1 r2 z q=>by
  unfold oEq at z
  split at z
  ·rename_i h;cases z;exact ⟨a,b,r1.mono s,r2.mono s,h,q _ Hi H (Ext.refl s) (.bl _)⟩
  ·cases z⟩
theorem zFJ {X:Cx}:OpK X (fun x y H Q=>∃ d d',IsD X.K H x d/\IsD X.K H y d'/\dep d<=50/\Q (.bl (!eqD d d')) H) oNe:=⟨fun a b c z=>(by
  unfold oNe at z;split at z<;>cases z),fun Hi H x y a b d Q s r1 r2 z q=>by
  unfold oNe at z
  split at z
  ·rename_i h;cases z;exact ⟨a,b,r1.mono s,r2.mono s,h,q _ Hi H (Ext.refl s) (.bl _)⟩
  ·cases z⟩
open Classical in
def zIG (K:PySem.W.Frag) (H:Hp) (dx:D) (u:Value):Bool:=if ∃ w d,IsD K H w d/\cP w u/\eqD d dx=true then true else false
theorem zGV (I:Inv X pins σ H s) {dx d:D} {w:V} {u:Value} (h:IsD X.K H w d) (r:cP w u):zIG X.K H dx u=eqD d dx:=by
 unfold zIG
 by_cases e:eqD d dx=true
 ·rw [if_pos ⟨w,d,h,r,e⟩,e]
 ·rw [if_neg]
  ·simpa using e
  ·rintro ⟨w',d',h',r',e'⟩
   have:=r.inj r'
   subst this
   have:=IsD.inj I h h'
   subst this
   exact e e'
theorem sY (I:Inv X pins σ H s) {dx:D}:∀ {xs:List V} {ds:List D} {us:List Value},IsDs X.K H xs ds->cX xs us->us.any (zIG X.K H dx)=ds.any fun d=>eqD d dx
 | _,_,_,.nil,.nil=>rfl
 | _,_,_,.cons h hs,.cons r t=>by rw [List.any_cons,List.any_cons,zGV I h r,sY I hs t]
theorem sO (I:Inv X pins σ H s) {A:Around} {dx:D} {x:V} {ux:Value} (hx:IsD X.K H x dx) (rx:cP x ux) (hu:A.units+50 < cLine):∀ {xs:List V} {ds:List D} {us:List Value},IsDs X.K H xs ds->cX xs us->(∀ d∈ds,dep d<=50)->∀ u∈us,SeqAt.EqAt A s u ux (zIG X.K H dx u)
 | _,_,_,.nil,.nil,_=>fun u hu=>by cases hu
 | _,_,_,.cons h hs,.cons r t,f=>fun u hm=>by
  rcases List.mem_cons.mp hm with rfl | hm
  ·rw [zGV I h r];exact zGp I 50 (f _ List.mem_cons_self) h hx A _ ux hu r rx
  ·exact sO I hx rx hu hs t (fun d hd=>f d (List.mem_cons_of_mem _ hd)) u hm
def zNV (K:PySem.W.Frag) (neg:Bool):R2:=fun x y H Q=>∃ d ds,IsD K H x d/\(IsD K H y (.lst ds)∨IsD K H y (.tup ds))/\depS ds<=50/\Q (.bl (if neg=true then !(ds.any fun e=>eqD e d) else ds.any fun e=>eqD e d)) H
theorem inA {X:Cx} (hu:X.A.units+64 < cLine):OpR X (compareOp .In) (zNV X.K false):=by
 intro pins s σ H x y v u Q I rx ry h
 obtain ⟨d,ds,h1,h2,hn,q⟩:=h
 have hd:∀ e∈ds,dep e<=50:=fun e he=>Nat.le_trans (pB he) hn
 rcases h2 with h2 | h2
 ·obtain ⟨a,xs,rfl,hl,hs⟩:=h2.lstI
  cases ry
  obtain ⟨its,rv,p,hz⟩:=I.list hl
  refine SeqAt.in_listAt (zIG X.K H d) p.isList (fun y hy=>sO I h1 rx (by show X.A.units+1+50 < cLine;omega) hs rv hd y (by simpa using hy)) ?_
  exact ⟨.bl _,H,I,by rw [List.any_toArray,sY I hs rv];rfl,q⟩
 ·obtain ⟨a,xs,rfl,hl,hs⟩:=h2.tupI
  cases ry
  obtain ⟨its,rv,p,hz⟩:=I.tuple hl
  refine SeqAt.in_tupleAt (zIG X.K H d) (show s.heap.IsTuple _ its.toArray from p) (fun y hy=>sO I h1 rx (by show X.A.units+1+50 < cLine;omega) hs rv hd y (by simpa using hy)) ?_
  exact ⟨.bl _,H,I,by rw [List.any_toArray,sY I hs rv];rfl,q⟩
theorem zIW {X:Cx} (hu:X.A.units+64 < cLine):OpR X (compareOp .NotIn) (zNV X.K true):=by
 intro pins s σ H x y v u Q I rx ry h
 obtain ⟨d,ds,h1,h2,hn,q⟩:=h
 have hd:∀ e∈ds,dep e<=50:=fun e he=>Nat.le_trans (pB he) hn
 rcases h2 with h2 | h2
 ·obtain ⟨a,xs,rfl,hl,hs⟩:=h2.lstI
  cases ry
  obtain ⟨its,rv,p,hz⟩:=I.list hl
  refine SeqAt.notIn_listAt (zIG X.K H d) p.isList (fun y hy=>sO I h1 rx (by show X.A.units+1+50 < cLine;omega) hs rv hd y (by simpa using hy)) ?_
  exact ⟨.bl _,H,I,by rw [List.any_toArray,sY I hs rv];rfl,q⟩
 ·obtain ⟨a,xs,rfl,hl,hs⟩:=h2.tupI
  cases ry
  obtain ⟨its,rv,p,hz⟩:=I.tuple hl
  refine SeqAt.notIn_tupleAt (zIG X.K H d) (show s.heap.IsTuple _ its.toArray from p) (fun y hy=>sO I h1 rx (by show X.A.units+1+50 < cLine;omega) hs rv hd y (by simpa using hy)) ?_
  exact ⟨.bl _,H,I,by rw [List.any_toArray,sY I hs rv];rfl,q⟩
theorem zPX {X:Cx}:OpK X (zNV X.K false) oIn:=⟨fun a b c z=>(by
  cases b<;>first | cases z | (simp only [oIn] at z;split at z<;>cases z)),fun Hi H x y a b d Q s r1 r2 z q=>by
  cases b<;>first | cases z | skip
  ·rename_i ds
   simp only [oIn] at z
   split at z
   ·rename_i h;cases z;exact ⟨a,ds,r1.mono s,.inr (r2.mono s),h,q _ Hi H (Ext.refl s) (.bl _)⟩
   ·cases z
  ·rename_i ds
   simp only [oIn] at z
   split at z
   ·rename_i h;cases z;exact ⟨a,ds,r1.mono s,.inl (r2.mono s),h,q _ Hi H (Ext.refl s) (.bl _)⟩
   ·cases z⟩
theorem zGH {X:Cx}:OpK X (zNV X.K true) sA:=⟨fun a b c z=>(by
  cases b<;>first | cases z | (simp only [sA] at z;split at z<;>cases z)),fun Hi H x y a b d Q s r1 r2 z q=>by
  cases b<;>first | cases z | skip
  ·rename_i ds
   simp only [sA] at z
   split at z
   ·rename_i h;cases z;exact ⟨a,ds,r1.mono s,.inr (r2.mono s),h,q _ Hi H (Ext.refl s) (.bl _)⟩
   ·cases z
  ·rename_i ds
   simp only [sA] at z
   split at z
   ·rename_i h;cases z;exact ⟨a,ds,r1.mono s,.inl (r2.mono s),h,q _ Hi H (Ext.refl s) (.bl _)⟩
   ·cases z⟩
end
end L3
namespace L3
open PySem PySem.Spec PyProof.Rows L2
unseal PEd PEf PTd PWd PAd PSd dC
section
variable {X:Cx} {G:Gx} {a b e:Expr} {es:List Expr} {pos p:Pos} {f g:Ev} {fs gs:Fv} {t u:Tv} {x:Str} {id T:String}
def zBB (X:Cx) (r:List V->Hp->VK->Prop) (o:List D->Res D):Prop:=(∀ a c,o a≠.err c)/\∀ (Hi H:Hp) (vs:List V) (ds:List D) (d:D) (Q:VK),Same Hi H->IsDs X.K Hi vs ds->o ds=.ok d->
 (∀ v Hi' H',Ext Hi H Hi' H'->IsD X.K Hi' v d->Q v H')->r vs H Q
theorem zMW {r:List V->Hp->VK->Prop} {o:List D->Res D} (k:zBB X r o):∀ σ H Q,tD X G (eB o fs) σ H Q->tCB r (tAs X G fs) σ H Q:=fun σ H Q q=>by
 obtain ⟨ρ,Hi,R,ou⟩:=q
 refine zHl R ou fun vs ds Hi1 H1 e1 R1 r1 o1=>?_
 cases z:o ds with
 | no=>rw [z] at o1;exact o1.elim
 | err c=>exact absurd z (k.1 ds c)
 | ok d=>rw [z] at o1;exact k.2 Hi1 H1 vs ds d Q R1.s r1 z fun v Hi2 H2 e2 r2=>o1 Hi2 H2 e2 v r2
theorem aV {r:List V->Hp->VK->Prop} {o:List D->Res D} (hc:vT X (.builtin id) r) (k:zBB X r o) (hg:Gl X x) (hm:X.mg x=none) (hv:bootBuiltins x=some (.builtin id)) (ha:PAd X G (e::es) fs) (hn:x ≠ "__name__" := by decide) (hdb:(x==("__debug__" : Str))=false:=by decide)
  (he:starEach (e::es) X.env=(false,eval e X.env)::starEach es X.env:=by rfl) (hpl:(backTo pos (starEach es X.env)).any (·.1)=false:=by rfl):PEd X G (.Call (.Name x p) (e::es) [] pos) (eB o fs):=
 PE.wk (yO hc hg hm hv ha hn hdb he hpl) (zMW k)
theorem sR {r:List V->Hp->VK->Prop} {o:List D->Res D} (hc:vT X (.type T) r) (k:zBB X r o) (hg:Gl X x) (hm:X.mg x=none) (hv:bootBuiltins x=some (.type T)) (ha:PAd X G (e::es) fs) (hn:x ≠ "__name__" := by decide) (hdb:(x==("__debug__" : Str))=false:=by decide)
  (he:starEach (e::es) X.env=(false,eval e X.env)::starEach es X.env:=by rfl) (hpl:(backTo pos (starEach es X.env)).any (·.1)=false:=by rfl):PEd X G (.Call (.Name x p) (e::es) [] pos) (eB o fs):=
 PE.wk (zQ hc hg hm hv ha hn hdb he hpl) (zMW k)
theorem IsDs.one {K:PySem.W.Frag} {H:Hp} {vs:List V} {d:D} (h:IsDs K H vs [d]):∃ v,vs=[v]/\IsD K H v d:=by
 cases h with
 | cons h t=>cases t;exact ⟨_,rfl,h⟩
theorem IsDs.two {K:PySem.W.Frag} {H:Hp} {vs:List V} {d d':D} (h:IsDs K H vs [d,d']):∃ v w,vs=[v,w]/\IsD K H v d/\IsD K H w d':=by
 cases h with
 | cons h t=>obtain ⟨w,rfl,hw⟩:=t.one;exact ⟨_,w,rfl,h,hw⟩
theorem dH:zBB X (fun xs H Q=>∃ p ys,xs=[.ref p]/\(SqL X.K H p ys∨SqT X.K H p ys)/\Q (.int ys.length) H) kP:=⟨fun a c z=>(by
  unfold kP at z;split at z<;>cases z),fun Hi H vs ds d Q s r z q=>by
  unfold kP at z
  split at z
  ·cases z
   obtain ⟨v,rfl,h⟩:=r.one
   obtain ⟨a,xs,rfl,h1,h2⟩:=h.lstI
   refine ⟨a,xs,rfl,.inl (cK s h1),?_⟩
   rw [h2.length]
   exact q _ Hi H (Ext.refl s) (.int _)
  ·cases z
   obtain ⟨v,rfl,h⟩:=r.one
   obtain ⟨a,xs,rfl,h1,h2⟩:=h.tupI
   refine ⟨a,xs,rfl,.inr (bP s h1),?_⟩
   rw [h2.length]
   exact q _ Hi H (Ext.refl s) (.int _)
  ·cases z⟩
theorem zDr:zBB X (fun xs H Q=>∃ i,xs=[.int i]/\Q (.int (if i < 0 then -i else i)) H) zJx:=⟨fun a c z=>(by
  unfold zJx at z;split at z<;>cases z),fun Hi H vs ds d Q s r z q=>by
  unfold zJx at z
  split at z
  ·cases z
   obtain ⟨v,rfl,h⟩:=r.one
   exact ⟨_,by rw [h.intI],q _ Hi H (Ext.refl s) (.int _)⟩
  ·cases z⟩
theorem zGR:zBB X (fun xs H Q=>∃ p ys,xs=[.ref p]/\((SqL X.K H p ys/\∀ l,H l=none->Q (.ref l) (upd H l (.tup ys)))∨(SqT X.K H p ys/\Q (.ref p) H))) zIX:=⟨fun a c z=>(by
  unfold zIX at z;split at z<;>cases z),fun Hi H vs ds d Q s r z q=>by
  unfold zIX at z
  split at z
  ·cases z
   obtain ⟨v,rfl,h⟩:=r.one
   obtain ⟨a,xs,rfl,h1,h2⟩:=h.lstI
   exact ⟨a,xs,rfl,.inl ⟨cK s h1,fun l hl=>q _ _ _ (Ext.new s hl) (.tup (SqT.of aR) (h2.mono (cG (s.none hl) _)))⟩⟩
  ·cases z
   obtain ⟨v,rfl,h⟩:=r.one
   obtain ⟨a,xs,rfl,h1,h2⟩:=h.tupI
   exact ⟨a,xs,rfl,.inr ⟨bP s h1,q _ Hi H (Ext.refl s) (.tup h1 h2)⟩⟩
  ·cases z⟩
theorem zLv (hg:Gl X "list") (hm:X.mg "list" = none) (hv:bootBuiltins "list" = some (.type "list")) (ha:PAd X G (e::es) fs)
  (he:starEach (e::es) X.env=(false,eval e X.env)::starEach es X.env:=by rfl) (hpl:(backTo pos (starEach es X.env)).any (·.1)=false:=by rfl):PEf X G (.Call (.Name "list" p) (e::es) [] pos) (zJH fs):=
 PE.wk (zQ zAG hg hm hv ha (by decide) (by decide) he hpl) fun σ H Q q=>by
 obtain ⟨ρ,Hi,R,ou⟩:=q
 refine zHl R ou fun vs ds Hi1 H1 e1 R1 r1 o1=>?_
 split at o1
 ·obtain ⟨v,rfl,h⟩:=r1.one
  obtain ⟨a,xs,rfl,h1,h2⟩:=h.lstI
  exact ⟨a,xs,rfl,.inl (cK R1.s h1),fun l hl=>o1 _ _ (Ext.newF R1.s hl) l ⟨e1.h.none hl,R1.s.none hl,xs,aR,h2⟩⟩
 ·obtain ⟨v,rfl,h⟩:=r1.one
  obtain ⟨a,xs,rfl,h1,h2⟩:=h.tupI
  exact ⟨a,xs,rfl,.inr (bP R1.s h1),fun l hl=>o1 _ _ (Ext.newF R1.s hl) l ⟨e1.h.none hl,R1.s.none hl,xs,aR,h2⟩⟩
 ·exact o1.elim
structure Kit (K:PySem.W.Frag) (T:String):Prop where
 non:PySem.W.kitOne K (.type "NoneType") (.type T)=some (isT T .non)
 bl:PySem.W.kitOne K (.type "bool") (.type T)=some (isT T (.bl true))
 int:PySem.W.kitOne K (.type "int") (.type T)=some (isT T (.int 0))
 str:PySem.W.kitOne K (.type "str") (.type T)=some (isT T (.str ⟨#[]⟩))
 tup:PySem.W.kitOne K (.type "tuple") (.type T)=some (isT T (.tup []))
 lst:PySem.W.kitOne K (.type "list") (.type T)=some (isT T (.lst []))
theorem zMb (k:Kit X.K T):vT X (.builtin "isinstance") (fun xs H Q=>∃ y d,xs=[y,.ty T]/\IsD X.K H y d/\Q (.bl (isT T d)) H):=by
 intro pins s σ H xs us Q I r h
 obtain ⟨y,d,rfl,hd,q⟩:=h
 obtain ⟨u,w',rfl,rx,rc⟩:=zOd r
 cases rc
 have fin:∀ tk,EP X pins σ Q (.bool (isT T d)) { s with toks:=tk }:=fun tk=>⟨.bl _,H,I.tok _,rfl,q⟩
 cases hd with
 | non=>cases (show u=Value.none from rx);exact PySem.W.kia_one PySem.W.kitx_none I.kIn True.intro k.non (fun z=>nomatch z) fin
 | bl y=>cases (show u=Value.bool y from rx);exact PySem.W.kia_one PySem.W.kitx_bool I.kIn True.intro k.bl (fun z=>nomatch z) fin
 | int i=>obtain ⟨t,q⟩:=(show ∃ t,u=Value.int i t from rx);cases q;exact PySem.W.kia_one PySem.W.kitx_int I.kIn True.intro k.int (fun z=>nomatch z) fin
 | str y=>obtain ⟨t,q⟩:=(show ∃ t,u=Value.str y t from rx);cases q;exact PySem.W.kia_one PySem.W.kitx_str I.kIn True.intro k.str (fun z=>nomatch z) fin
 | @tup a xs ds h hs=>
  cases (show u=Value.ref a from rx)
  obtain ⟨its,rv,⟨o,h1,h2,_⟩,hz⟩:=I.tuple h
  exact PySem.W.kia_one PySem.W.kitx_tuple I.kIn ⟨o,h1,h2⟩ k.tup (fun z=>nomatch z) fin
 | @lst a xs ds h hs=>
  cases (show u=Value.ref a from rx)
  obtain ⟨its,rv,⟨o,n,h1,h2,_⟩,hz⟩:=I.list h
  exact PySem.W.kia_one PySem.W.kitx_list I.kIn ⟨o,h1,h2⟩ k.lst (fun z=>nomatch z) fin
theorem vY {c:Expr} (k:Kit X.K T) (hg:Gl X "isinstance") (hm:X.mg "isinstance" = none) (ha:PEd X G a f) (hc:PE X c (tC (.ty T)))
  (h1:starEach [a,c] X.env=(false,eval a X.env)::starEach [c] X.env:=by rfl) (h2:starEach [c] X.env=(false,eval c X.env)::starEach [] X.env:=by rfl) (hpl:(backTo pos (starEach [c] X.env)).any (·.1)=false:=by rfl):
  PEd X G (.Call (.Name "isinstance" p) [a,c] [] pos) (zJn T f):=
 PE.wk (yO (zMb k) hg hm boot_isinstance (dB ha (dB hc kY h2) h1) (by decide) (by decide) h1 hpl) fun σ H Q q=>by
 obtain ⟨ρ,Hi,R,ou⟩:=q
 refine zBv R ou fun v d Hi1 H1 e1 R1 r1 o1=>?_
 exact ⟨v,d,rfl,r1.mono R1.s,o1.here R1.s _ (.bl _)⟩
variable {lo hi:Option Expr} {l h:Ov} {p2:Pos}
def tOv (X:Cx) (G:Gx) (f:Ov):TO:=fun σ H Q=>∃ ρ Hi,kE X G Hi H σ ρ/\Out G Hi H (f ρ) fun o _ H'=>Q o H'
@[irreducible] def POd (X:Cx) (G:Gx) (e:Option Expr) (f:Ov):Prop:=PO X e (tOv X G f)
unseal POd
theorem PO.wk {X:Cx} {e:Option Expr} {t t':TO} (h:PO X e t) (w:∀ σ H Q,t' σ H Q->t σ H Q):PO X e t':=fun pins s σ H Q I q=>h pins s σ H Q I (w σ H Q q)
theorem zKb:POd X G none oN:=PO.wk zLf fun σ H Q q=>by
 obtain ⟨ρ,Hi,R,ou⟩:=q
 exact ou.here R.s
theorem zCk (he:PEd X G e f):POd X G (some e) (oS f):=PO.wk (zKT he) fun σ H Q q=>by
 obtain ⟨ρ,Hi,R,ou⟩:=q
 refine zBv R ou fun v d Hi1 H1 e1 R1 r1 o1=>?_
 cases d with
 | int i=>exact ⟨i,r1.intI,o1.here R1.s⟩
 | _=>exact o1.elim
theorem zPl {f:Ov} {Hi H:Hp} {σ:St} {ρ:Rho} {β:Type} {k:Option Int->Res β} {k':β->Hp->Hp->Prop} {Q:Option Int->Hp->Prop} (R:kE X G Hi H σ ρ) (o:Out G Hi H ((f ρ).bind k) k')
  (w:∀ c Hi' H',Ext Hi H Hi' H'->kE X G Hi' H' σ ρ->Out G Hi' H' (k c) k'->Q c H'):tOv X G f σ H Q:=
 ⟨ρ,Hi,R,o.bind.imp fun d Hi' H' e q=>w d Hi' H' e (R.grow e) q⟩
theorem zFI (n d:Nat) (i:Option Int):cut n i d=HT.sIx n d i:=by
 cases i with
 | none=>rfl
 | some i=>
  simp only [cut,HT.sIx]
  split<;>split<;>omega
theorem IsDs.cut {K:PySem.W.Frag} {H:Hp} {xs:List V} {ds:List D} (h:IsDs K H xs ds) (l r:Option Int):IsDs K H (zLz xs l r) (jW ds l r):=by
 unfold zLz jW
 rw [zFI,zFI,h.length]
 exact (h.drop _).take _
theorem zDw (he:PEd X G e f) (hl:POd X G lo l) (hu:POd X G hi h):PEf X G (.Subscript e (.Slice lo hi none p2) pos) (fSl f l h):=PE.wk (zIg zLi he hl hu) fun σ H Q q=>by
 obtain ⟨ρ,Hi,R,ou⟩:=q
 refine zBv R ou fun v d Hi1 H1 e1 R1 r1 o1=>?_
 refine zPl R1 o1 fun i Hi2 H2 e2 R2 o2=>?_
 refine zPl R2 o2 fun j Hi3 H3 e3 R3 o3=>?_
 cases d with
 | lst ds=>
  obtain ⟨a,xs,rfl,h1,h2⟩:=r1.lstI
  refine ⟨a,xs,rfl,cK (e2.i.trans (e3.i.trans R3.s)) h1,fun p hp=>?_⟩
  exact o3 _ _ (Ext.newF R3.s hp) p ⟨(e1.h.trans (e2.h.trans e3.h)).none hp,R3.s.none hp,_,aR,(h2.cut i j).mono (e2.i.trans e3.i)⟩
 | _=>exact o3.elim
def zOc (K:PySem.W.Frag):R2:=fun x y H Q=>∃ l b xs zs,x=.ref l/\y=.ref b/\SqL K H l xs/\SqL K H b zs/\xs.length+zs.length<=sizeLine/\∀ p,H p=none->Q (.ref p) (upd H p (.lst (xs++zs)))
theorem zKr:OpR X (binaryOp .Add) (zOc X.K):=by
 intro pins s σ H x y v u Q I rx ry h
 obtain ⟨l,b,xs,zs,rfl,rfl,hl,hb,hz,q⟩:=h
 cases rx
 cases ry
 obtain ⟨its,r,p,_⟩:=I.list hl
 obtain ⟨its2,r2,p2,_⟩:=I.list hb
 obtain ⟨⟨cls,dd,data,sl⟩,ho,hc,n,hd⟩:=id p.isList
 obtain ⟨⟨cls2,dd2,data2,sl2⟩,ho2,hc2,n2,hd2⟩:=id p2.isList
 simp only at hc hd hc2 hd2
 subst hc hd hc2 hd2
 have hsz:its.toArray.size+its2.toArray.size<=sizeLine:=by rw [List.size_toArray,List.size_toArray,<-r.length,<-r2.length];exact hz
 have e:its.toArray++its2.toArray=(its++its2).toArray:=by simp
 refine concat_meets ⟨_,ho,rfl⟩ ⟨_,ho2,rfl⟩ noFill_list_add seq_list_add PySem.F.slot_list_add PySem.F.entry_list_add (PySem.F.args_list_add_2 _ _) (list_addW l b its.toArray its2.toArray n n2 dd dd2 sl sl2 hsz) ⟨ho,ho2,?_⟩
 rw [e]
 exact ⟨.ref _,_,I.lnew (t':=s.toks) (r.append r2) (by rw [List.length_append];exact hz),rfl,q _ I.fresh⟩
theorem zMM (ha:PEd X G a f) (hb:PEd X G b g):PEf X G (.BinOp a .Add b pos) (zOB f g):=PE.wk (zFm zKr ha hb) fun σ H Q q=>by
 obtain ⟨ρ,Hi,R,ou⟩:=q
 refine zBv R ou fun v d Hi1 H1 e1 R1 r1 o1=>?_
 refine zBv R1 o1 fun w d' Hi2 H2 e2 R2 r2 o2=>?_
 cases d<;>first | exact o2.elim | skip
 cases d'<;>first | exact o2.elim | skip
 rename_i ds es
 obtain ⟨a,xs,rfl,h1,h2⟩:=r1.lstI
 obtain ⟨b,ys,rfl,h3,h4⟩:=r2.lstI
 have o2':Out G Hi2 H2 (if ds.length+es.length<=16777216 then Res.ok (ds++es) else .no) _:=o2
 by_cases hz:ds.length+es.length<=16777216
 ·rw [if_pos hz] at o2'
  refine ⟨a,b,xs,ys,rfl,rfl,cK (e2.i.trans e2.s) h1,cK e2.s h3,by rw [h2.length,h4.length];exact hz,fun p hp=>?_⟩
  exact o2' _ _ (Ext.newF e2.s hp) p ⟨(e1.h.trans e2.h).none hp,e2.s.none hp,_,aR,(h2.mono e2.i).append h4⟩
 ·rw [if_neg hz] at o2';exact o2'.elim
end
end L3
namespace L3
open PySem PySem.Spec PyProof.Rows L2
unseal PEd PEf PTd PWd PAd PSd dC POd
section
variable {X:Cx} {G:Gx} {a b e:Expr} {es:List Expr} {pos p:Pos} {f g:Ev} {fs gs:Fv} {t u:Tv} {x:Str} {st:Stmt} {rest:List Stmt} {sa sb:Sv}
theorem mY {Hi H:Hp} {σ:St} {ρ:Rho} {E:Ends} {α:Type} {r:Res α} {k:α->Res Fl} (R:kE X G Hi H σ ρ) (h:Fin X G Hi E (r.bind k)) {Q:α->Hp->Hp->Prop}
  (w:∀ a Hi' H',r=.ok a->Ext Hi H Hi' H'->Fin X G Hi' E (k a)->Q a Hi' H'):Out G Hi H r Q:=by
 cases r with
 | no=>exact h
 | err c=>exact fun Hi' H' e=>h Hi' H' (R.ext.trans e)
 | ok a=>exact fun Hi' H' e=>w a Hi' H' rfl e (Fin.mono (show Fin X G Hi E (k a) from h) e.i)
theorem bD:dC X G [] sNext:=PSs.wk zBz fun E σ H q=>by
 obtain ⟨ρ,Hi,R,h⟩:=q
 exact h σ Hi H (Same.refl _) R
theorem zMj {E:Ends} {Hi:Hp} {ρ:Rho} (h:Fin X G Hi E (aY sa sb ρ)):Fin X G Hi { E with nx:=tS X G sb E } (sa ρ):=by
 unfold aY at h
 cases z:sa ρ with
 | no=>rw [z] at h;exact h
 | err c=>rw [z] at h;exact h
 | ok fl=>
  rw [z] at h
  cases fl with
  | nx ρ'=>exact fun σ' Hi' H' s R'=>⟨ρ',Hi',R',Fin.mono (show Fin X G Hi E (sb ρ') from h) s⟩
  | brk ρ'=>exact h
  | ctn ρ'=>exact h
  | ret r=>cases r<;>exact h
theorem zLP {E:Ends} {σ:St} {H:Hp} (q:tS X G (aY sa sb) E σ H):tS X G sa { E with nx:=tS X G sb E } σ H:=by
 obtain ⟨ρ,Hi,R,h⟩:=q
 exact ⟨ρ,Hi,R,zMj h⟩
theorem aD (h1:PSd X G st sa) (h2:dC X G rest sb):dC X G (st::rest) (aY sa sb):=PSs.wk (jM h1 h2) fun _ _ _ q=>zLP q
theorem aH (h1:PSd X G st sa):dC X G [st] sa:=zBZ h1
theorem wA (he:PEd X G e f) (hs:swapsWith e none pos.line X.env=pure false:=by rfl):PSd X G (.Expr e pos) (zAE f):=PS.wk (yA he hs) fun E σ H q=>by
 obtain ⟨ρ,Hi,R,h⟩:=q
 exact ⟨ρ,Hi,R,mY R h fun d Hi' H' _ e h' v r=>h' σ Hi' H' (Same.refl _) (R.grow e)⟩
theorem cD (he:PEd X G e f):PSd X G (.Return (some e) pos) (gP f):=PS.wk (zCx he) fun E σ H q=>by
 obtain ⟨ρ,Hi,R,h⟩:=q
 obtain ⟨Hf,s1,R1,fl⟩:=R.frz
 refine ⟨ρ.map Sl.frz,Hf,R1,mY R1 (Fin.mono h s1) fun d Hi' H' _ e h' v r=>?_⟩
 exact h' v Hi' H' (R1.ext.trans e) r
theorem fZ (he:PEf X G e fs):PSd X G (.Return (some e) pos) (jO fs):=PS.wk (zCx he) fun E σ H q=>by
 obtain ⟨ρ,Hi,R,h⟩:=q
 obtain ⟨Hf,s1,R1,fl⟩:=R.frz
 refine ⟨ρ.map Sl.frz,Hf,R1,mY R1 (Fin.mono h s1) fun ds Hi' H' _ e h' a n=>?_⟩
 obtain ⟨n1,n2,xs,n3,n4⟩:=n
 exact h' a Hi' H' (R1.ext.trans e) ⟨R1.ext.h.none n1,n2,xs,n3,n4⟩
theorem jU (i:Nat) (he:PE X e (uH i)):PSd X G (.Return (some e) pos) (gT i):=PS.wk (zCx he) fun E σ H q=>by
 obtain ⟨ρ,Hi,R,h⟩:=q
 unfold gT at h
 cases z:ρ[i]? with
 | none=>rw [z] at h;exact h.elim
 | some s=>
  rw [z] at h
  cases s with
  | own ds=>
   obtain ⟨a,xs,p,h1,h2,h3,h4⟩:=R.slot i _ z
   exact ⟨.ref a,p,h a Hi H R.ext ⟨h3,h2,xs,h1,h4⟩⟩
  | un=>exact h.elim
  | val d=>exact h.elim
  | exc c=>exact h.elim
  | tab T=>exact h.elim
theorem iN {c:Expr} {as bs:List Stmt} (hc:PTd X G c t) (ha:dC X G as sa) (hb:dC X G bs sb):PSd X G (.If c as bs pos) (sIf t sa sb):=PS.wk (zJJ hc ha hb) fun E σ H q=>by
 obtain ⟨ρ,Hi,R,h⟩:=q
 refine ⟨ρ,Hi,R,mY R h fun c Hi' H' _ e h'=>?_⟩
 cases c with
 | true=>exact ⟨ρ,Hi',R.grow e,h'⟩
 | false=>exact ⟨ρ,Hi',R.grow e,h'⟩
theorem zOs {i:Nat} {pos':Pos} (hN:X.N.Nodup) (hi:X.N[i]?=some x) (hx:Loc X.env.scope x) (he:PEd X G e f) (hs:swapsWith e (some (.Name x pos')) pos.line X.env=pure false:=by rfl)
  (hf:X.fn x=true∨X.env.scope.names.lookup x=some .local:=by first | exact .inl rfl | exact .inr rfl | assumption):PSd X G (.Assign [.Name x pos'] e pos) (dP i f):=PS.wk (zGb hN hi hx he hs hf) fun E σ H q=>by
 obtain ⟨ρ,Hi,R,h⟩:=q
 exact ⟨ρ,Hi,R,mY R h fun d Hi' H' _ e h' v r=>h' _ Hi' H' (Same.refl _) ((R.grow e).set r)⟩
theorem tT {i:Nat} {pos':Pos} (hN:X.N.Nodup) (hi:X.N[i]?=some x) (hx:Loc X.env.scope x) (he:PEf X G e fs) (hs:swapsWith e (some (.Name x pos')) pos.line X.env=pure false:=by rfl)
  (hf:X.fn x=true∨X.env.scope.names.lookup x=some .local:=by first | exact .inl rfl | exact .inr rfl | assumption):PSd X G (.Assign [.Name x pos'] e pos) (zEq i fs):=PS.wk (zGb hN hi hx he hs hf) fun E σ H q=>by
 obtain ⟨ρ,Hi,R,h⟩:=q
 refine ⟨ρ,Hi,R,mY R h fun ds Hi' H' _ e h' a n=>?_⟩
 obtain ⟨n1,n2,xs,n3,n4⟩:=n
 exact h' _ Hi' H' (Same.refl _) (R.setOwn e n1 n3 n2 n4)
theorem zBg {i:Nat} {o:Expr} {apos cpos:Pos} (ho:PE X o (uH i)) (he:PEd X G e f)
  (hbase:attributeBase o "append" X.env (eval o X.env)=eval o X.env:=by rfl)
  (hfew:((backTo cpos (starEach [e] X.env)).all (fun x=>!x.1) && (backToKw cpos (keywordEach [] X.env)).all (fun x=>x.1.isSome)
   && decide ([e].length+([]:List Keyword).length+(if ([]:List Keyword).isEmpty then 0 else 1) < 30))=true:=by rfl)
  (hline:(apos.endLine==cpos.line)=true:=by rfl) (hs:starEach [e] X.env=(false,eval e X.env)::starEach [] X.env:=by rfl)
  (hsw:swapsWith (.Call (.Attribute o "append" apos) [e] [] cpos) none pos.line X.env=pure false:=by rfl):
  PSd X G (.Expr (.Call (.Attribute o "append" apos) [e] [] cpos) pos) (zEr i f):=
 PS.wk (yA (zNg PySem.F.plainAttrs_list PySem.F.slot_list_append PySem.F.type_list_append oT ho (dB he kY hs) hbase hfew hline hs) hsw) fun E σ H q=>by
 obtain ⟨ρ,Hi,R,h⟩:=q
 unfold zEr at h
 cases z:ρ[i]? with
 | none=>rw [z] at h;exact h.elim
 | some s=>
  rw [z] at h
  cases s with
  | own ds=>
   obtain ⟨a,xs,p,h1,h2,h3,h4⟩:=R.slot i _ z
   refine ⟨.ref a,p,.inl ⟨rfl,xs,SqL.of h1⟩,?_⟩
   refine ⟨ρ,Hi,R,mY R h fun d Hi' H' _ e h' v r=>?_⟩
   have R':=R.grow e
   obtain ⟨g1,g2⟩:=e.out h1 h2
   by_cases hz:ds.length < 16777216
   ·rw [if_pos hz] at h'
    refine ⟨a,xs,v,rfl,rfl,g1,by rw [h4.length];exact hz,?_⟩
    exact h' σ Hi' _ (Same.refl _) (R'.write z p ((h4.mono e.i).append (.cons r .nil)))
   ·rw [if_neg hz] at h';exact h'.elim
  | un=>exact h.elim
  | val d=>exact h.elim
  | exc c=>exact h.elim
  | tab T=>exact h.elim
theorem zOi {i:Nat} {o:Expr} {apos cpos:Pos} (ho:PE X o (uH i))
  (hbase:attributeBase o "pop" X.env (eval o X.env)=eval o X.env:=by rfl) (hline:(apos.endLine==cpos.line)=true:=by rfl)
  (hsw:swapsWith (.Call (.Attribute o "pop" apos) [] [] cpos) none pos.line X.env=pure false:=by rfl):
  PSd X G (.Expr (.Call (.Attribute o "pop" apos) [] [] cpos) pos) (zMA i):=
 PS.wk (yA (zLB PySem.F.plainAttrs_list PySem.F.slot_list_pop PySem.F.type_list_pop zMO ho hbase hline) hsw) fun E σ H q=>by
 obtain ⟨ρ,Hi,R,h⟩:=q
 unfold zMA at h
 cases z:ρ[i]? with
 | none=>rw [z] at h;exact h.elim
 | some s=>
  rw [z] at h
  cases s with
  | own ds=>
   obtain ⟨a,xs,p,h1,h2,h3,h4⟩:=R.slot i _ z
   refine ⟨.ref a,p,.inl ⟨rfl,xs,SqL.of h1⟩,?_⟩
   have h:Fin X G Hi E (if ds.length=0 then Res.no else Res.ok (Fl.nx (ρ.set i (.own ds.dropLast)))):=h
   by_cases hz:ds.length=0
   ·rw [if_pos hz] at h;exact h.elim
   ·rw [if_neg hz] at h
    have hl:=h4.length
    refine ⟨a,xs,xs[xs.length - 1]'(by omega),rfl,rfl,h1,List.getElem?_eq_getElem (by omega),?_⟩
    exact h σ Hi _ (Same.refl _) (R.write z p h4.dropLast)
  | un=>exact h.elim
  | val d=>exact h.elim
  | exc c=>exact h.elim
  | tab T=>exact h.elim
theorem zOE {i:Nat} {o k:Expr} {fk:Ev} {tpos:Pos} (ho:PE X o (uH i)) (hk:PEd X G k fk) (he:PEd X G e f) (hs:swapsWithSole [.Subscript o k tpos] e pos.line X.env=pure false:=by rfl) (hw:swappedStores [.Subscript o k tpos] e X.env=pure none:=by rfl)
  (h1:(assignEach [.Subscript o k tpos] X.env).map (·.2)=[assign (.Subscript o k tpos) X.env]:=by rfl)
  (ha:∀ v,assign (.Subscript o k tpos) X.env v=(do
   let ov <-holding [v] (eval o X.env)
   let iv <-holding [v,ov] (eval k X.env)
   standAt tpos
   holding [v,ov,iv] (setItem ov iv v)
   release [v,ov,iv] []):=by intro _;rfl):PSd X G (.Assign [.Subscript o k tpos] e pos) (zNP i fk f):=
 PS.wk (zLY he (zMm ho hk zIx ha) hs hw h1) fun E σ H q=>by
 obtain ⟨ρ,Hi,R,h⟩:=q
 refine ⟨ρ,Hi,R,mY R h fun d Hi1 H1 _ e1 h1 v r=>?_⟩
 have R1:=R.grow e1
 cases z:ρ[i]? with
 | none=>rw [z] at h1;exact h1.elim
 | some s=>
  rw [z] at h1
  cases s with
  | own ds=>
   obtain ⟨a,xs,p,g1,g2,g3,g4⟩:=R1.slot i _ z
   refine ⟨.ref a,p,?_⟩
   refine ⟨ρ,Hi1,R1,mY R1 h1 fun j Hi2 H2 _ e2 h2 w rw'=>?_⟩
   have R2:=R1.grow e2
   obtain ⟨k1,k2⟩:=e2.out g1 g2
   cases j with
   | int j=>
    have hl:=g4.length
    have h2':Fin X G Hi2 E (if 0<=j/\j < ds.length then Res.ok (.nx (ρ.set i (.own (ds.set j.toNat d)))) else if -(ds.length:Int)<=j/\j < 0 then .ok (.nx (ρ.set i (.own (ds.set (j+ds.length).toNat d)))) else .no):=h2
    by_cases c1:0<=j/\j < ds.length
    ·rw [if_pos c1] at h2'
     refine ⟨a,xs,j,j.toNat,rfl,rw'.intI,k1,by unfold ixN;rw [if_pos c1.1,if_pos (by omega)],?_⟩
     exact h2' σ Hi2 _ (Same.refl _) (R2.write z p ((g4.mono e2.i).set (r.mono e2.i) j.toNat))
    ·rw [if_neg c1] at h2'
     by_cases c2:-(ds.length:Int)<=j/\j < 0
     ·rw [if_pos c2] at h2'
      refine ⟨a,xs,j,(j+ds.length).toNat,rfl,rw'.intI,k1,by unfold ixN;rw [if_neg (by omega),if_pos (by omega),hl],?_⟩
      exact h2' σ Hi2 _ (Same.refl _) (R2.write z p ((g4.mono e2.i).set (r.mono e2.i) (j+ds.length).toNat))
     ·rw [if_neg c2] at h2';exact h2'.elim
   | _=>exact h2.elim
  | un=>exact h1.elim
  | val d=>exact h1.elim
  | exc c=>exact h1.elim
  | tab T=>exact h1.elim
theorem zHL {i:Nat} {op:Operator} {o:Op2} {r:Int->Int->Int} {pos':Pos} (hN:X.N.Nodup) (hi:X.N[i]?=some x) (hx:Loc X.env.scope x) (he:PEd X G e f) (ho:PIp X op (ipI r)) (hr:∀ a b d,o a b=.ok d->∃ i j,a=.int i/\b=.int j/\d=.int (r i j)) (hn:∀ a b c,o a b≠.err c)
  (hf:X.fn x=true∨X.env.scope.names.lookup x=some .local:=by first | exact .inl rfl | exact .inr rfl | assumption):PSd X G (.AugAssign (.Name x pos') op e pos) (zIR i o f):=PS.wk (zMd hN hi hx he ho hf) fun E σ H q=>by
 obtain ⟨ρ,Hi,R,h⟩:=q
 unfold zIR at h
 cases z:ρ[i]? with
 | none=>rw [z] at h;exact h.elim
 | some s=>
  rw [z] at h
  cases s with
  | val d=>
   obtain ⟨v,p,rv⟩:=R.slot i _ z
   refine ⟨v,p,ρ,Hi,R,mY R h fun d' Hi' H' _ e h' w rw'=>?_⟩
   cases q:o d d' with
   | no=>rw [q] at h';exact h'.elim
   | err c=>exact absurd q (hn _ _ _)
   | ok u=>
    rw [q] at h'
    obtain ⟨i',j',rfl,rfl,rfl⟩:=hr _ _ _ q
    exact ⟨i',j',rv.intI,rw'.intI,h' _ Hi' H' (Same.refl _) ((R.grow e).set (.int _))⟩
  | un=>exact h.elim
  | own ds=>exact h.elim
  | exc c=>exact h.elim
  | tab T=>exact h.elim
theorem dC.frzAt (i:Nat) {sts:List Stmt} (h:dC X G sts sa):dC X G sts (sFrzAt i sa):=PSs.wk h fun E σ H q=>by
 obtain ⟨ρ,Hi,R,h⟩:=q
 obtain ⟨Hi',s,R'⟩:=R.frzAt (i:=i)
 exact ⟨_,Hi',R',Fin.mono h s⟩
def tGv (X:Cx) (G:Gx) (g:Gv):TG:=fun v σ H Q=>∃ d ρ Hi,IsD X.K Hi v d/\kE X G Hi H σ ρ/\∃ ρ',g d ρ=.ok ρ'/\∀ σ' Hi' H',Same Hi Hi'->kE X G Hi' H' σ' ρ'->Q σ' H'
@[irreducible] def PGd (X:Cx) (G:Gx) (e:Expr) (g:Gv):Prop:=PG X e (tGv X G g)
unseal PGd
theorem zNv {i:Nat} (hN:X.N.Nodup) (hi:X.N[i]?=some x) (hx:Loc X.env.scope x) (hf:X.fn x=true∨X.env.scope.names.lookup x=some .local:=by first | exact .inl rfl | exact .inr rfl | assumption):PGd X G (.Name x pos) (gName i):=
 fun pins s σ H v u Q I r q=>zBR hN hi hx hf pins s σ H v u Q I r (by
  obtain ⟨d,ρ,Hi,rd,R,ρ',e,k⟩:=q
  cases e
  exact k _ Hi H (Same.refl _) (R.set rd))
def zPE (X:Cx) (G:Gx) (g:List D->Rho->Res Rho):TGs:=fun vs σ H Q=>∃ ds ρ Hi,IsDs X.K Hi vs ds/\kE X G Hi H σ ρ/\∃ ρ',g ds ρ=.ok ρ'/\∀ σ' Hi' H',Same Hi Hi'->kE X G Hi' H' σ' ρ'->Q σ' H'
@[irreducible] def fO (X:Cx) (G:Gx) (es:List Expr) (g:List D->Rho->Res Rho):Prop:=PGs X es (zPE X G g)
unseal fO
theorem zIZ:fO X G [] zIb:=fun pins s σ H vs us Q I r q=>zFj pins s σ H vs us Q I r (by
  obtain ⟨ds,ρ,Hi,rd,R,ρ',e,k⟩:=q
  cases ds with
  | nil=>cases rd;cases e;exact ⟨rfl,k _ Hi H (Same.refl _) R⟩
  | cons d ds=>cases e)
theorem wU {g:Gv} {r:List D->Rho->Res Rho} (h1:PGd X G e g) (h2:fO X G es r) (hs:(assignEach (e::es) X.env).map (·.2)=assign e X.env::(assignEach es X.env).map (·.2):=by rfl):fO X G (e::es) (qR g r):=
 fun pins s σ H vs us Q I rr q=>wM h1 h2 hs pins s σ H vs us Q I rr (by
  obtain ⟨ds,ρ,Hi,rd,R,ρ',e,k⟩:=q
  cases ds with
  | nil=>cases e
  | cons d ds=>
   cases rd with
   | cons rd rds=>
    refine ⟨_,_,rfl,d,ρ,Hi,rd,R,?_⟩
    have e':(g d ρ).bind (fun ρ'=>r ds ρ')=.ok ρ':=e
    cases z:g d ρ with
    | no=>rw [z] at e';cases e'
    | err c=>rw [z] at e';cases e'
    | ok ρ1=>
     rw [z] at e'
     exact ⟨ρ1,rfl,fun σ1 Hi1 H1 s1 R1=>⟨ds,ρ1,Hi1,rds.mono s1,R1,ρ',e',fun σ2 Hi2 H2 s2 R2=>k σ2 Hi2 H2 (s1.trans s2) R2⟩⟩)
theorem zMQ {k:Nat} {r:List D->Rho->Res Rho} {n:Nat} (hc:X.calm=true) (h:fO X G es r) (hr:∀ ds ρ ρ',r ds ρ=.ok ρ'->ds.length=n) (hn:(assignEach es X.env).length=n:=by rfl) (hst:(assignEach es X.env).findIdx? (·.1)=none:=by rfl):PGd X G (.Tuple es k pos) (zIn r):=
 fun pins s σ H v u Q I rr q=>zJk hc h hn hst pins s σ H v u Q I rr (by
  obtain ⟨d,ρ,Hi,rd,R,ρ',e,kk⟩:=q
  cases d with
  | tup ds=>
   obtain ⟨a,xs,rfl,h1,h2⟩:=rd.tupI
   exact ⟨a,xs,rfl,bP R.s h1,by rw [h2.length];exact hr ds ρ ρ' e,ds,ρ,Hi,h2,R,ρ',e,kk⟩
  | _=>cases e)
def sQ (K:PySem.W.Frag) (Hi:Hp) (J:It) (ds:List D):Prop:=∀ (Hi1 H1:Hp),Same Hi Hi1->Same Hi1 H1->∀ i,
 (ds.length<=i->J.stop i H1)/\∀ d,ds[i]?=some d->J.go i H1/\∀ x H2,J.yld i H1 x H2->∃ Hi2,Ext Hi1 H1 Hi2 H2/\IsD K Hi2 x d
def tIv (X:Cx) (G:Gx) (f:Fv):TI:=fun σ H R=>∃ ρ Hi,kE X G Hi H σ ρ/\Out G Hi H (f ρ) fun ds Hi' H'=>∀ J,sQ X.K Hi' J ds->R J H'
@[irreducible] def PId (X:Cx) (G:Gx) (tg e:Expr) (f:Fv):Prop:=PI X tg e (tIv X G f)
unseal PId
theorem PI.wk {tg:Expr} {t t':TI} (h:PI X tg e t) (w:∀ σ H Q,t' σ H Q->t σ H Q):PI X tg e t':=fun pins s σ H Q I q=>h pins s σ H Q I (w σ H Q q)
theorem zJt {g:Gv} {J:It} {ds:List D} {Hi1 H1:Hp} {σ:St} {ρ:Rho} {E:Ends} (hge:∀ d ρ c,g d ρ≠.err c) (R1:kE X G Hi1 H1 σ ρ) (h1:Fin X G Hi1 E (eN g sa ds ρ)) (gv:sQ X.K Hi1 J ds):zPk (fun _ _ R=>R J H1) (tGv X G g) (tS X G sa) E σ H1:=by
 refine ⟨fun i m σ' H'=>m=ds.length - i/\∃ ρ' Hi',Same Hi1 Hi'/\kE X G Hi' H' σ' ρ'/\Fin X G Hi' E (eN g sa (ds.drop i) ρ'),⟨_,rfl,ρ,Hi1,Same.refl _,R1,h1⟩,?_⟩
 rintro i m σ' H' ⟨rfl,ρ',Hi',s',R',h'⟩
 obtain ⟨w1,w2⟩:=gv Hi' H' s' R'.s i
 by_cases hl:i < ds.length
 ·obtain ⟨d,hd⟩:∃ d,ds[i]?=some d:=⟨_,List.getElem?_eq_getElem hl⟩
  obtain ⟨go,yl⟩:=w2 d hd
  have e3:ds.drop i=d::ds.drop (i+1):=by
   rw [List.getElem?_eq_getElem hl] at hd
   cases hd
   exact List.drop_eq_getElem_cons hl
  rw [e3] at h'
  refine .inr ⟨go,fun σ2 H2=>∃ ρ2 Hi2,Same Hi1 Hi2/\kE X G Hi2 H2 σ2 ρ2/\Fin X G Hi2 E (eN g sa (ds.drop (i+1)) ρ2),fun σ2 H2 z=>⟨ds.length - (i+1),by omega,rfl,z⟩,fun x H2 y=>?_⟩
  obtain ⟨Hi2,e2,r2⟩:=yl x H2 y
  have R2:=R'.grow e2
  have h2:Fin X G Hi2 E ((g d ρ').bind fun ρ1=>(sa ρ1).bind fun f=>match f with
   | .nx ρ2=>eN g sa (ds.drop (i+1)) ρ2
   | .ctn ρ2=>eN g sa (ds.drop (i+1)) ρ2
   | .brk ρ2=>.ok (.nx ρ2)
   | .ret r=>.ok (.ret r)):=Fin.mono h' e2.i
  cases z:g d ρ' with
  | no=>rw [z] at h2;exact h2.elim
  | err c=>exact absurd z (hge _ _ _)
  | ok ρ1=>
   rw [z] at h2
   refine ⟨d,ρ',Hi2,r2,R2,ρ1,z,fun σ3 Hi3 H3 s3 R3=>⟨ρ1,Hi3,R3,?_⟩⟩
   have h3:=Fin.mono h2 s3
   have sm:Same Hi1 Hi3:=(s'.trans e2.i).trans s3
   simp only [Res.bind] at h3
   cases zb:sa ρ1 with
   | no=>rw [zb] at h3;exact h3.elim
   | err c=>rw [zb] at h3;exact h3
   | ok fl=>
    rw [zb] at h3
    cases fl with
    | nx ρ2=>exact fun σ4 Hi4 H4 s4 R4=>⟨ρ2,Hi4,sm.trans s4,R4,Fin.mono (show Fin X G Hi3 E (eN g sa (ds.drop (i+1)) ρ2) from h3) s4⟩
    | ctn ρ2=>exact fun σ4 Hi4 H4 s4 R4=>⟨ρ2,Hi4,sm.trans s4,R4,Fin.mono (show Fin X G Hi3 E (eN g sa (ds.drop (i+1)) ρ2) from h3) s4⟩
    | brk ρ2=>exact h3
    | ret r=>cases r<;>exact h3
 ·rw [List.drop_eq_nil_of_le (by omega)] at h'
  exact .inl ⟨w1 (by omega),h' σ' Hi' H' (Same.refl _) R'⟩
theorem iF {tg iter:Expr} {body:List Stmt} {it:Fv} {g:Gv} (hp:PassesOwn (model X.prog X.w) X.A X.env X.xe) (hc:X.calm=true) (hi:PId X G tg iter it) (hg:PGd X G tg g) (hge:∀ d ρ c,g d ρ≠.err c) (hb:dC X G body sa)
  (hs:∀ x,foldedSetIterable iter X.env x=pure x:=by intro _;rfl):PSd X G (.For tg iter body [] pos) (rJ it g sa):=PS.wk (zJi hp hc hi hg hb hs) fun E σ H q=>by
 obtain ⟨ρ,Hi,R,h⟩:=q
 exact ⟨ρ,Hi,R,mY R h fun ds Hi1 H1 _ e1 h1 J gv=>zJt hge (R.grow e1) h1 gv⟩
theorem zFk {c:Expr} {body:List Stmt} (hp:PassesOwn (model X.prog X.w) X.A X.env X.xe) (hc:PTd X G c t) (hb:dC X G body sa):PSd X G (.While c body [] pos) (fA t sa):=PS.wk (zHM hp hc hb) fun E σ H q=>by
 obtain ⟨ρ,Hi,R,h⟩:=q
 have hn:fA t sa ρ≠.no:=fun z=>by rw [z] at h;exact h
 obtain ⟨n,en⟩:=mK hn
 rw [en] at h
 refine ⟨fun m σ' H'=>∃ ρ' Hi',Same Hi Hi'/\kE X G Hi' H' σ' ρ'/\Fin X G Hi' E (wh t sa m ρ'),⟨n,ρ,Hi,Same.refl _,R,h⟩,?_⟩
 rintro m σ' H' ⟨ρ',Hi',s',R',h'⟩
 cases m with
 | zero=>exact h'.elim
 | succ m=>
  rw [wh] at h'
  refine ⟨ρ',Hi',R',mY R' h' fun c Hi1 H1 _ e1 h1=>?_⟩
  have R1:=R'.grow e1
  cases c with
  | false=>exact h1 σ' Hi1 H1 (Same.refl _) R1
  | true=>
   refine ⟨fun σ2 H2=>∃ ρ2 Hi2,Same Hi Hi2/\kE X G Hi2 H2 σ2 ρ2/\Fin X G Hi2 E (wh t sa m ρ2),fun σ2 H2 z=>⟨m,by omega,z⟩,ρ',Hi1,R1,?_⟩
   have sm:Same Hi Hi1:=s'.trans e1.i
   simp only [if_true] at h1
   cases zb:sa ρ' with
   | no=>rw [zb] at h1;exact h1.elim
   | err c=>rw [zb] at h1;exact h1
   | ok fl=>
    rw [zb] at h1
    cases fl with
    | nx ρ2=>exact fun σ4 Hi4 H4 s4 R4=>⟨ρ2,Hi4,sm.trans s4,R4,Fin.mono (show Fin X G Hi1 E (wh t sa m ρ2) from h1) s4⟩
    | ctn ρ2=>exact fun σ4 Hi4 H4 s4 R4=>⟨ρ2,Hi4,sm.trans s4,R4,Fin.mono (show Fin X G Hi1 E (wh t sa m ρ2) from h1) s4⟩
    | brk ρ2=>exact h1
    | ret r=>cases r<;>exact h1
theorem zGx {K:PySem.W.Frag} {Hi:Hp} {a:Addr} {xs:List V} {ds:List D} (h:SqT K Hi a xs) (hs:IsDs K Hi xs ds):sQ K Hi (Itt K a) ds:=fun Hi1 H1 s1 s2 i=>by
 have h1:=bP (s1.trans s2) h
 refine ⟨fun hl=>⟨xs,h1,by rw [hs.length];exact hl⟩,fun d hd=>?_⟩
 obtain ⟨v,hv,r⟩:=hs.at hd
 refine ⟨⟨xs,v,h1,hv⟩,fun x H2 y=>?_⟩
 obtain ⟨e,y⟩:=y
 subst e
 have:=y xs h1
 rw [hv] at this
 cases this
 exact ⟨Hi1,Ext.refl s2,r.mono s1⟩
theorem zJN {lo c:Int} {n i:Nat} {d:D} (h:(rng lo n c)[i]?=some d):i < n/\d=.int (lo+(i:Int) * c):=by
 unfold rng at h
 rw [List.getElem?_map] at h
 by_cases hl:i < n
 ·rw [List.getElem?_range hl] at h;cases h;exact ⟨hl,rfl⟩
 ·rw [List.getElem?_eq_none (by rw [List.length_range];omega)] at h;cases h
theorem zKK (lo c:Int) (n:Nat):(rng lo n c).length=n:=by unfold rng;rw [List.length_map,List.length_range]
theorem zAB {K:PySem.W.Frag} {Hi:Hp} (lo:Int) (n:Nat):sQ K Hi (Itr lo n) (rng lo n 1):=fun Hi1 H1 s1 s2 i=>by
 refine ⟨fun hl=>by rw [zKK] at hl;exact hl,fun d hd=>?_⟩
 obtain ⟨h1,rfl⟩:=zJN hd
 refine ⟨h1,fun x H2 y=>?_⟩
 obtain ⟨e,y⟩:=y
 subst e y
 rw [Int.mul_one]
 exact ⟨Hi1,Ext.refl s2,.int _⟩
theorem zFc {tg:Expr} (hg:Gl X "range") (hm:X.mg "range" = none) (ha:PAd X G [a] fs) (hs:starEach [a] X.env=[(false,eval a X.env)]:=by rfl):PId X G tg (.Call (.Name "range" p) [a] [] pos) (zBy fs):=PI.wk (zGk hg hm ha hs) fun σ H Q q=>by
 obtain ⟨ρ,Hi,R,ou⟩:=q
 refine zHl R ou fun vs ds Hi1 H1 e1 R1 r1 o1=>?_
 split at o1
 ·rename_i j
  obtain ⟨v,rfl,h⟩:=r1.one
  by_cases hz:-(2^62)<=j/\j < 2^62
  ·rw [if_pos hz] at o1
   exact ⟨j,by rw [h.intI],hz.1,hz.2,o1.here R1.s _ (zAB 0 j.toNat)⟩
  ·rw [if_neg hz] at o1;exact o1.elim
 ·exact o1.elim
theorem zCt {tg:Expr} (hg:Gl X "range") (hm:X.mg "range" = none) (ha:PAd X G [a,b] fs) (hs:starEach [a,b] X.env=[(false,eval a X.env),(false,eval b X.env)]:=by rfl) (hs2:starEach [b] X.env=[(false,eval b X.env)]:=by rfl):PId X G tg (.Call (.Name "range" p) [a,b] [] pos) (zBj fs):=PI.wk (zFy hg hm ha hs hs2) fun σ H Q q=>by
 obtain ⟨ρ,Hi,R,ou⟩:=q
 refine zHl R ou fun vs ds Hi1 H1 e1 R1 r1 o1=>?_
 split at o1
 ·rename_i i j
  obtain ⟨v,w,rfl,h,h'⟩:=r1.two
  by_cases hz:-(2^62)<=i/\i < 2^62/\-(2^62)<=j/\j < 2^62
  ·rw [if_pos hz] at o1
   exact ⟨i,j,by rw [h.intI,h'.intI],hz,o1.here R1.s _ (zAB i (j - i).toNat)⟩
  ·rw [if_neg hz] at o1;exact o1.elim
 ·exact o1.elim
end
end L3
namespace L3
open PySem PySem.Spec PyProof.Rows L2
unseal PEd PEf PTd PWd PAd PSd dC POd PGd fO PId
structure Fn (K:PySem.W.Frag) (mg:Str->Option Value) (x:Str) (st:Stmt) (ps:List Str) (f:Addr) (fd:FuncData):Prop where
 fn:Fun K x x st f fd
 bd:xO K fd ps []
 kp:PySem.W.keepIn K (.ref f)=true
 mg:mg x=some (.ref f)
def XE (X:Cx) (G:Gx):XK:=fun cls _ H=>∃ c,X.mg c=some cls/\G.E c H
def oF (K:PySem.W.Frag) (mg:Str->Option Value) (P:Addr):Prop:=∃ f oc od fd osl c,mg "ranked" = some (.ref f)/\K.lookup f=some ⟨oc,od,.func fd,osl⟩/\fd.code=.ref c/\∀ h,K.In h->PySem.W.CodeHd h c P
def TB (K:PySem.W.Frag) (mg:Str->Option Value) (Hi H:Hp):Prop:=∀ P,oF K mg P->qV P H/\Hi P=none
theorem TB.ext {K:PySem.W.Frag} {mg:Str->Option Value} {Hi H Hi' H':Hp} (t:TB K mg Hi H) (e:Ext Hi H Hi' H'):TB K mg Hi' H':=fun P h=>⟨e.h.t P (t P h).1,by
 cases z:Hi' P with
 | none=>rfl
 | some o=>
  obtain ⟨⟨ps,q,_⟩,n⟩:=t P h
  have:=e.n P n (by rw [z];exact fun w=>by cases w)
  rw [q] at this;cases this⟩
structure Good (X:Cx) (G:Gx) (k:Nat):Prop where
 calm:X.calm=true
 room:Room k X.A
 pass:zDf (CX1 X.prog X.w) X (XE X G)
 own:PassesOwn (model X.prog X.w) X.A X.env X.xe
 tb:TB X.K X.mg G.Bi G.B
def zDE (X:Cx) (G:Gx):Prop:=∀ (pins:List (Addr×Obj)) (σ:St) (H:Hp) (s s':Shared) (ea:Addr) (cls:Value) (vs:List Value),Inv X pins σ H s->Heap.MadeExcOf s.heap s'.heap ea cls vs->s'.os=s.os->AllBare s'.gens->XE X G cls none H->X.xe (.ref ea) s'
def spM (K:PySem.W.Frag) (mg:Str->Option Value) (p:Nat) (m:Mir):Sp:=fun vs H Q E=>vs.length=p/\∃ Bi ds,TB K mg Bi H/\Same Bi H/\IsDs K Bi vs ds/\match m ds with
 | .ok (.v d)=>∀ v Hi' H',Ext Bi H Hi' H'->IsD K Hi' v d->Q v H'
 | .ok (.f es)=>∀ a Hi' H',Ext Bi H Hi' H'->zIi K H Hi' H' a es->Q (.ref a) H'
 | .err c=>∀ C,mg c=some C->∀ Hi' H',Ext Bi H Hi' H'->E C none H'
 | .no=>False
structure CanM (P:Program) (w:World) (K:PySem.W.Frag) (mg:Str->Option Value) (base:Heap) (k:Nat) (x:Str) (ps:List Str) (m:Mir):Prop where
 ex:∃ f fd,FnOk P w K mg base (CX1 P w) k f fd ps (spM K mg ps.length m)/\xO K fd ps []/\PySem.W.keepIn K (.ref f)=true/\mg x=some (.ref f)
 ln:∀ ds,m ds≠.no->ds.length=ps.length
theorem Good.u {X:Cx} {G:Gx} {k:Nat} (W:Good X G k):X.A.units+64 < cLine:=W.room.units
theorem CanM.mono {P:Program} {w:World} {K:PySem.W.Frag} {mg:Str->Option Value} {base:Heap} {j k:Nat} {x:Str} {ps:List Str} {m:Mir} (c:CanM P w K mg base j x ps m) (h:j<=k):CanM P w K mg base k x ps m:=by
 obtain ⟨⟨f,fd,F,r⟩,l⟩:=c
 exact ⟨⟨f,fd,F.mono h,r⟩,l⟩
section
variable {X:Cx} {G:Gx} {a b e:Expr} {es:List Expr} {pos p:Pos} {f g:Ev} {fs gs:Fv} {t u:Tv} {x:Str} {st:Stmt} {rest:List Stmt} {sa sb:Sv} {k:Nat} {ps:List Str} {m:Mir}
theorem zLF {ps:List Str} (tb:TB X.K X.mg G.Bi G.B) (ln:∀ ds,m ds≠.no->ds.length=ps.length):∀ σ H Q,tD X G (aP m fs) σ H Q->zLm (spM X.K X.mg ps.length m) [] (XE X G) (tAs X G fs) σ H Q:=fun σ H Q q=>by
 obtain ⟨ρ,Hi,R,ou⟩:=q
 refine zHl R ou fun vs ds Hi1 H1 e1 R1 r1 o1=>?_
 rw [List.append_nil]
 have hm:m ds≠.no:=fun z=>by rw [z] at o1;exact o1
 refine ⟨by rw [r1.length];exact ln ds hm,Hi1,ds,tb.ext R1.ext,R1.s,r1,?_⟩
 cases z:m ds with
 | no=>exact absurd z hm
 | err c=>rw [z] at o1;exact fun C hC Hi2 H2 e2=>⟨c,hC,o1 Hi2 H2 e2⟩
 | ok r=>
  rw [z] at o1
  cases r with
  | v d=>exact fun v Hi2 H2 e2 r2=>o1 Hi2 H2 e2 v r2
  | f ds=>
   intro a Hi2 H2 e2 n
   obtain ⟨n1,n2,xs,n3,n4⟩:=n
   exact o1 _ _ (e2.hold n1 n3 n2) (.ref a) (.lst (SqL.of aR) (n4.mono (cG n2 _)))
theorem aG (W:Good X G k) (c:CanM X.prog X.w X.K X.mg X.base k x ps m) (hg:Gl X x) (ha:PAd X G (e::es) fs)
  (hdb:(x==("__debug__" : Str))=false:=by decide) (he:starEach (e::es) X.env=(false,eval e X.env)::starEach es X.env:=by rfl) (hpl:(backTo pos (starEach es X.env)).any (·.1)=false:=by rfl):
  PEd X G (.Call (.Name x p) (e::es) [] pos) (aP m fs):=by
 obtain ⟨⟨f,fd,F,b,kp,hm⟩,ln⟩:=c
 exact PE.wk (tQ F W.room hg hm kp b .nil W.pass ha hdb he hpl) (zLF W.tb ln)
theorem zKf {ps:List Str} (tb:TB X.K X.mg G.Bi G.B) (ln:∀ ds,m ds≠.no->ds.length=ps.length):∀ σ H Q,tF X G (fQ m fs) σ H Q->zLm (spM X.K X.mg ps.length m) [] (XE X G) (tAs X G fs) σ H Q:=fun σ H Q q=>by
 obtain ⟨ρ,Hi,R,ou⟩:=q
 refine zHl R ou fun vs ds Hi1 H1 e1 R1 r1 o1=>?_
 rw [List.append_nil]
 have hm:m ds≠.no:=fun z=>by rw [z] at o1;exact o1
 refine ⟨by rw [r1.length];exact ln ds hm,Hi1,ds,tb.ext R1.ext,R1.s,r1,?_⟩
 cases z:m ds with
 | no=>exact absurd z hm
 | err c=>rw [z] at o1;exact fun C hC Hi2 H2 e2=>⟨c,hC,o1 Hi2 H2 e2⟩
 | ok r=>
  rw [z] at o1
  cases r with
  | v d=>exact o1.elim
  | f ds=>exact fun a Hi2 H2 e2 n=>o1 Hi2 H2 e2 a ⟨e1.h.none n.1,n.2⟩
theorem cJ (W:Good X G k) (c:CanM X.prog X.w X.K X.mg X.base k x ps m) (hg:Gl X x) (ha:PAd X G (e::es) fs)
  (hdb:(x==("__debug__" : Str))=false:=by decide) (he:starEach (e::es) X.env=(false,eval e X.env)::starEach es X.env:=by rfl) (hpl:(backTo pos (starEach es X.env)).any (·.1)=false:=by rfl):
  PEf X G (.Call (.Name x p) (e::es) [] pos) (fQ m fs):=by
 obtain ⟨⟨f,fd,F,b,kp,hm⟩,ln⟩:=c
 exact PE.wk (tQ F W.room hg hm kp b .nil W.pass ha hdb he hpl) (zKf W.tb ln)
theorem bN {d:D} (hg:Gl X x) (h:∃ v u',X.mg x=some u'/\cP v u'/\IsD X.K (fun _=>none) v d) (hdb:(x==("__debug__" : Str))=false:=by decide):PEd X G (.Name x pos) (eC d):=by
 obtain ⟨v,u',hm,r,hd⟩:=h
 exact pP (zFn hg hm r hdb) fun H=>hd.mono fun b o z=>by cases z
end
abbrev BX (P:Program) (w:World) (K:PySem.W.Frag) (mg:Str->Option Value) (base:Heap) (N:List Str) (x:Str) (st:Stmt) (f:Addr) (cdv:Value) (A:Around) (outer:List Env) (s:Shared) (H:Hp) (E:XK):Cx:=
 zEh (CX1 P w) P w K mg base N x (aE st) f cdv A outer s H E
theorem zI {K:PySem.W.Frag} {mg:Str->Option Value} {Bi H:Hp} {N:List Str} {vs:List V} {ds:List D} (s:Same Bi H) (h:IsDs K Bi vs ds):Rel K mg H Bi Bi H (L2.start N vs) (L3.start N.length ds) where
 len:=by
  unfold L2.start L3.start
  rw [List.length_append,List.length_append,List.length_map,List.length_map,List.length_replicate,List.length_replicate,h.length]
 ext:=Ext.refl s
 slot:=fun i sl e=>by
  unfold L3.start at e
  by_cases hi:i < ds.length
  ·rw [List.getElem?_append_left (by rw [List.length_map];exact hi),List.getElem?_map] at e
   obtain ⟨d,hd⟩:∃ d,ds[i]?=some d:=⟨_,List.getElem?_eq_getElem hi⟩
   rw [hd] at e;cases e
   obtain ⟨v,hv,r⟩:=h.at hd
   refine ⟨v,?_,r⟩
   unfold L2.start
   rw [List.getElem?_append_left (by rw [List.length_map,h.length];exact hi),List.getElem?_map,hv]
   rfl
  ·rw [List.getElem?_append_right (by rw [List.length_map];omega),List.getElem?_replicate] at e
   split at e
   ·cases e;trivial
   ·cases e
 dist:=fun i j a es fs e _ _ _=>by
  exfalso
  unfold L3.start at e
  by_cases hi:i < ds.length
  ·rw [List.getElem?_append_left (by rw [List.length_map];exact hi),List.getElem?_map] at e
   cases z:ds[i]? with
   | none=>rw [z] at e;cases e
   | some d=>rw [z] at e;cases e
  ·rw [List.getElem?_append_right (by rw [List.length_map];omega),List.getElem?_replicate] at e
   split at e<;>cases e
section
variable {P:Program} {w:World} {K:PySem.W.Frag} {mg:Str->Option Value} {base:Heap} {N ps:List Str} {x:Str} {st:Stmt} {f:Addr} {fd:FuncData} {k:Nat} {b:Sv}
theorem zCl {cdv:Value} {A:Around} {outer:List Env} {s:Shared} {H Bi:Hp} {E:XK} (hr:Room k (A.deeper (envOfC x (aE st) s.heap.objs.size f cdv))) (tb:TB K mg Bi H):
  Good (BX P w K mg base N x st f cdv A outer s H E) ⟨H,Bi,fun c H'=>∀ C,mg c=some C->E C none H'⟩ k where
 calm:=rfl
 room:=hr
 pass:=zOH fun c H' q=>by
  obtain ⟨c',h1,h2⟩:=q
  exact h2 c h1
 own:=PassesOwn.leaving
 tb:=tb
theorem zCS {cdv:Value} {A:Around} {outer:List Env} {s:Shared} {H Bi:Hp} {E:XK}:
  zDE (BX P w K mg base N x st f cdv A outer s H E) ⟨H,Bi,fun c H'=>∀ C,mg c=some C->E C none H'⟩:=fun pins σ H1 s1 s' ea cls vs I hx hos hg q=>by
 obtain ⟨c',h1,h2⟩:=q
 exact zBp I hx hos hg (h2 cls h1)
theorem zNf (F:Fn K mg x st ps f fd) (S:FnScope N ps (aE st))
  (h:∀ (cdv:Value) (A:Around) (outer:List Env) (s:Shared) (H:Hp) (E:XK) (G:Gx),Good (BX P w K mg base N x st f cdv A outer s H E) G k->zDE (BX P w K mg base N x st f cdv A outer s H E) G->dC (BX P w K mg base N x st f cdv A outer s H E) G (dR st) b):
  FnOk P w K mg base (CX1 P w) (k+1) f fd ps (spM K mg ps.length (fn ps.length N.length b)):=by
 obtain ⟨oc,od,kV,doc,pm,an,cdv,ct,osl,rfl,lk,hcd⟩:=F.fn.ex
 refine zKX lk hcd S (fun vs H Q E h=>h.1) fun A outer s H vs Q E hr hsp=>?_
 obtain ⟨hl,Bi,ds,tb,sm,hd,hq⟩:=hsp
 have hg:=zCl (P:=P) (w:=w) (K:=K) (mg:=mg) (base:=base) (N:=N) (outer:=outer) (H:=H) (Bi:=Bi) (E:=E) hr tb
 refine ⟨_,h cdv A outer s H E _ hg zCS,L3.start N.length ds,Bi,zI sm hd,?_⟩
 have hlen:ds.length=ps.length:=by rw [<-hd.length];exact hl
 unfold fn at hq
 rw [if_pos hlen] at hq
 cases z:b (L3.start N.length ds) with
 | no=>rw [z] at hq;exact hq
 | err c=>rw [z] at hq;exact fun Hi' H' e C hC=>hq C hC Hi' H' e
 | ok fl=>
  rw [z] at hq
  cases fl with
  | nx ρ'=>exact fun σ' Hi' H' s R=>hq .non Hi' H' R.ext .non
  | brk ρ'=>exact hq.elim
  | ctn ρ'=>exact hq.elim
  | ret r=>
   cases r with
   | v d=>exact hq
   | f es=>exact hq
theorem zBX (F:Fn K mg x st ps f fd) (S:FnScope N ps (aE st))
  (h:∀ (cdv:Value) (A:Around) (outer:List Env) (s:Shared) (H:Hp) (E:XK) (G:Gx),Good (BX P w K mg base N x st f cdv A outer s H E) G k->zDE (BX P w K mg base N x st f cdv A outer s H E) G->dC (BX P w K mg base N x st f cdv A outer s H E) G (dR st) b):
  CanM P w K mg base (k+1) x ps (fn ps.length N.length b):=by
 refine ⟨⟨f,fd,zNf F S h,F.bd,F.kp,F.mg⟩,fun ds hm=>?_⟩
 unfold fn at hm
 split at hm
 ·assumption
 ·exact absurd rfl hm
end
end L3
namespace L3
open PySem PySem.Spec PyProof.Rows L2
unseal PEd PEf PTd PWd PAd PSd dC POd PGd fO PId
section
variable {X:Cx} {G:Gx} {a b e:Expr} {es:List Expr} {pos p:Pos} {f g:Ev} {fs gs:Fv} {t u:Tv} {x:Str} {st:Stmt} {rest:List Stmt} {sa sb:Sv} {k:Nat}
theorem PTd.frz (h:PTd X G e t):PTd X G e (tFrzB t):=PT.wk h fun σ H Q q=>by
 obtain ⟨ρ,Hi,R,ou⟩:=q
 obtain ⟨Hf,s1,R1,fl⟩:=R.frz
 refine ⟨ρ.map Sl.frz,Hf,R1,?_⟩
 unfold tFrzB at ou
 cases z:t (ρ.map Sl.frz) with
 | no=>rw [z] at ou;exact ou
 | err c=>
  rw [z] at ou
  intro Hi1 H1 e1
  obtain ⟨Ht,e2,k,s2,n⟩:=Ext.thaw s1 fl R1.s e1
  exact ou Ht H1 e2
 | ok c=>
  rw [z] at ou
  intro Hi1 H1 e1
  obtain ⟨Ht,e2,k,s2,n⟩:=Ext.thaw s1 fl R1.s e1
  exact ou Ht H1 e2
def iSq (K:PySem.W.Frag) (tl:TE):TI:=fun σ H R=>tl σ H fun x H1=>∃ a,x=.ref a/\(((∃ xs,SqL K H1 a xs)/\R (Itl K a) H1)∨((∃ xs,SqT K H1 a xs)/\R (Itt K a) H1))
theorem zNr {tg l:Expr} {tl:TE} (hl:PE X l tl):PI X tg l (iSq X.K tl):=by
 intro pins s σ H R I h
 refine thn (hl pins s σ H _ I h) fun v s1 ⟨x,H1,I1,r1,q1⟩=>?_
 obtain ⟨a,e,q1⟩:=q1
 subst e
 cases r1
 rcases q1 with ⟨⟨xs,hq⟩,q⟩ | ⟨⟨xs,hq⟩,q⟩
 ·obtain ⟨its,rv,p,hz⟩:=I1.list hq
  refine wpAny_pyIter_list p.isList ?_
  refine ⟨s1.heap.objs.size,[s1.heap.objs.size],_,_,H1,rfl,I1.kept (t':=s1.toks) fun b o e=>Heap.get?_push_of_some _ e,zAf a _,⟨_,Heap.get?_push_size _ rfl,rfl,rfl⟩,fun b hb=>?_,q⟩
  have e:b=s1.heap.objs.size:=by simpa using hb
  subst e
  exact I1.fpOk (Nat.le_refl _) (I1.hok.fresh (Nat.le_refl _))
 ·obtain ⟨its,rv,p,hz⟩:=I1.tuple hq
  refine wpAny_pyIter_tuple (show s1.heap.IsTuple a its.toArray from p) ?_
  refine ⟨s1.heap.objs.size,[s1.heap.objs.size],_,_,H1,rfl,I1.kept (t':=s1.toks) fun b o e=>Heap.get?_push_of_some _ e,zDG a _,⟨_,Heap.get?_push_size _ rfl,rfl,rfl⟩,fun b hb=>?_,q⟩
  have e:b=s1.heap.objs.size:=by simpa using hb
  subst e
  exact I1.fpOk (Nat.le_refl _) (I1.hok.fresh (Nat.le_refl _))
theorem zAc {K:PySem.W.Frag} {Hi:Hp} {a:Addr} {xs:List V} {ds:List D} (h1:SqL K Hi a xs) (h2:IsDs K Hi xs ds):sQ K Hi (Itl K a) ds:=fun Hi1 H1 s1 s2 i=>by
 have h3:=cK (s1.trans s2) h1
 refine ⟨fun hl=>⟨xs,h3,by rw [h2.length];exact hl⟩,fun d hd=>?_⟩
 obtain ⟨v,hv,r⟩:=h2.at hd
 refine ⟨⟨xs,v,h3,hv⟩,fun x H2 y=>?_⟩
 obtain ⟨e,y⟩:=y
 subst e
 have:=y xs h3
 rw [hv] at this
 cases this
 exact ⟨Hi1,Ext.refl s2,r.mono s1⟩
theorem iE {tg:Expr} (h:PEd X G e f):PId X G tg e (qL f):=PI.wk (zNr h) fun σ H Q q=>by
 obtain ⟨ρ,Hi,R,ou⟩:=q
 refine zBv R ou fun v d Hi1 H1 e1 R1 r1 o1=>?_
 cases d with
 | lst ds=>
  obtain ⟨a,xs,rfl,h1,h2⟩:=r1.lstI
  exact ⟨a,rfl,.inl ⟨⟨xs,cK R1.s h1⟩,o1.here R1.s _ (zAc h1 h2)⟩⟩
 | tup ds=>
  obtain ⟨a,xs,rfl,h1,h2⟩:=r1.tupI
  exact ⟨a,rfl,.inr ⟨⟨xs,bP R1.s h1⟩,o1.here R1.s _ (zGx h1 h2)⟩⟩
 | _=>exact o1.elim
theorem bC {i:Nat}:∀ d ρ c,gName i d ρ≠.err c:=fun d ρ c z=>by cases z
theorem zFT:∀ d ρ c,zIb d ρ≠.err c:=fun d ρ c z=>by cases d<;>cases z
theorem rA {g:Gv} {r:List D->Rho->Res Rho} (h1:∀ d ρ c,g d ρ≠.err c) (h2:∀ d ρ c,r d ρ≠.err c):∀ d ρ c,qR g r d ρ≠.err c:=fun d ρ c z=>by
 cases d with
 | nil=>cases z
 | cons d ds=>
  have z':(g d ρ).bind (fun ρ'=>r ds ρ')=.err c:=z
  cases q:g d ρ with
  | no=>rw [q] at z';cases z'
  | err c'=>exact h1 _ _ _ q
  | ok ρ'=>rw [q] at z';exact h2 _ _ _ z'
theorem zFz {r:List D->Rho->Res Rho} (h:∀ d ρ c,r d ρ≠.err c):∀ d ρ c,zIn r d ρ≠.err c:=fun d ρ c z=>by
 cases d<;>first | cases z | exact h _ _ _ z
theorem zIT:∀ (ds:List D) (ρ ρ':Rho),zIb ds ρ=.ok ρ'->ds.length=0:=fun ds ρ ρ' z=>by
 cases ds with
 | nil=>rfl
 | cons d ds=>cases z
theorem xV {g:Gv} {r:List D->Rho->Res Rho} {n:Nat} (h:∀ (ds:List D) (ρ ρ':Rho),r ds ρ=.ok ρ'->ds.length=n):∀ (ds:List D) (ρ ρ':Rho),qR g r ds ρ=.ok ρ'->ds.length=n+1:=fun ds ρ ρ' z=>by
 cases ds with
 | nil=>cases z
 | cons d ds=>
  have z':(g d ρ).bind (fun ρ'=>r ds ρ')=.ok ρ':=z
  cases q:g d ρ with
  | no=>rw [q] at z';cases z'
  | err c'=>rw [q] at z';cases z'
  | ok ρ1=>rw [q] at z';rw [List.length_cons,h ds ρ1 ρ' z']
theorem zFD:∀ a b d,zCb a b=.ok d->∃ i j,a=.int i/\b=.int j/\d=.int (i+j):=fun a b d z=>by
 unfold zCb at z;split at z
 ·cases z;exact ⟨_,_,rfl,rfl,rfl⟩
 ·cases z
theorem zCJ:∀ a b c,zCb a b≠.err c:=fun a b c z=>by unfold zCb at z;split at z<;>cases z
theorem zGr:∀ a b d,sD a b=.ok d->∃ i j,a=.int i/\b=.int j/\d=.int (i - j):=fun a b d z=>by
 unfold sD at z;split at z
 ·cases z;exact ⟨_,_,rfl,rfl,rfl⟩
 ·cases z
theorem zCE:∀ a b c,sD a b≠.err c:=fun a b c z=>by unfold sD at z;split at z<;>cases z
end
end L3
namespace L3
open PySem PySem.Spec PyProof.Rows L2
unseal PEd PEf PTd PWd PAd PSd dC POd PGd fO PId
theorem zAV {K:PySem.W.Frag} {H:Hp}:∀ ns:List Int,IsDs K H (ns.map V.int) (ns.map D.int)
 | []=>.nil
 | n::ns=>.cons (.int n) (zAV ns)
end L3
namespace L3
open PySem PySem.Spec PyProof.Rows L2
unseal PEd PEf PTd PWd PAd PSd dC POd PGd fO PId
section
variable {X:Cx} {G:Gx} {e:Expr} {es:List Expr} {pos np cpos:Pos} {fs:Fv} {k:Nat} {c:Str}
theorem iQ (W:Good X G k) (WR:zDE X G) (hR:∃ C,Err X.K X.mg c C) (hg:Gl X c) (ha:PAd X G (e::es) fs)
  (he:starEach (e::es) X.env=(false,eval e X.env)::starEach es X.env:=by rfl) (hplain:(backTo cpos (starEach es X.env)).any (·.1)=false:=by rfl) (hd:(c==("__debug__" : Str))=false:=by decide):
  PSd X G (.Raise (some (.Call (.Name c np) (e::es) [] cpos)) none pos) (kD c fs):=by
 intro pins s σ H E I q
 obtain ⟨ρ,Hi,R,h⟩:=q
 obtain ⟨C,Er⟩:=hR
 obtain ⟨bmB,newId,B,initId,O,FB⟩:=Er.own X.base I.mod.kin
 obtain ⟨tl,N,nm,q,bs,hdct,sn,sub,ab,col,dd,k0,k1,k2,k3,k5,mN,hC,hN,hni,T⟩:=O.obj
 have hA:=ha cpos pins s σ H (fun vs H1=>vs.length<=sizeLine/\XE X G (.ref C) none H1) I ⟨ρ,Hi,R,mY R h fun ds Hi' H' _ e1 h' vs r=>by
  have h':Fin X G Hi' E (if ds.length<=16777216 then (.err c:Res Fl) else .no):=h'
  by_cases hz:ds.length<=16777216
  ·rw [if_pos hz] at h'
   exact ⟨by rw [r.length];exact hz,c,O.bound,h' Hi' H' (R.ext.trans e1)⟩
  ·rw [if_neg hz] at h';exact h'.elim⟩
 refine wpAny_Raise_call_subT (C:=C) (nm:=nm) (q:=q) (N:=N) (bs:=bs) (bm:=tl) (hdct:=hdct) (sn:=sn) (sub:=sub) (ab:=ab) (col:=col) (dd:=dd) (k0:=k0) (k1:=k1) (k2:=k2) (k3:=k3) (k5:=k5)
  FB (mN:=mN) (T.hasType FB.hasBase) (I.ok.hd W.calm) (by rw [he];show (false || (backTo cpos (starEach es X.env)).any (·.1))=false;rw [hplain];rfl) hni (zBI I hg O.bound ⟨rfl,?_⟩ hd)
 rw [he] at hA ⊢
 refine Calls.evalArgs_plain (wpAny_mono hA (fun us s₂ h₂=>?_) fun _ _ y=>y)
 obtain ⟨vs,H2,I2,rv,hz,hx⟩:=h₂
 exact ⟨rfl,by show us.length<=sizeLine;rw [<-rv.length];exact hz,I2.bk _ _ hC,hN.keeps I2.bk,T.keeps I2.bk,fun h' ea hm=>WR pins σ H2 s₂ { s₂ with heap:=h' } ea (.ref C) us I2 hm rfl I2.bare hx⟩
end
end L3
namespace L3
open PySem PySem.Spec PyProof.Rows L2 PySem.W Builtin Builtin.ObjectAttr Builtin.Getset_descriptor
unseal PEd PEf PTd PWd PAd PSd dC POd PGd fO PId
section
variable {prog:Program} {w:World} {A:Around} {E:Value->Shared->Prop} {s:Shared} {K:Frag} {x D:Addr} {ox:Obj}
end
end L3
namespace L3
open PySem PySem.Spec PyProof.Rows L2 PySem.W
unseal PEd PEf PTd PWd PAd PSd dC POd PGd fO PId
section
variable {prog:Program} {w:World} {A:Around} {E:Value->Shared->Prop} {s:Shared} {K:Frag} {x C CE:Addr} {ox:Obj}
end
end L3
namespace L3
open PySem PySem.Spec PyProof.Rows L2 PySem.W
unseal PEd PEf PTd PWd PAd PSd dC POd PGd fO PId
section
variable {X:Cx} {pins:List (Addr×Obj)} {σ:St} {H H':Hp} {s s':Shared} {ea:Addr} {cls:Value}
theorem _root_.L2.Inv.track (I:Inv X pins σ H s) {a:Addr} {o:HO} (hn:H a=none) (h0:X.s₀.heap.get? a=none) (hl:a≠X.env.locals) (hc:∀ x c,X.env.cells.lookup x=some c->c≠a) (hp:∀ p∈X.pn++pins,p.1≠a)
  (ho:kG X.prog X.w (upd H a o) s.heap a o):Inv X pins σ (upd H a o) s where
 ok:=I.ok
 os:=I.os
 bare:=I.bare
 base:=⟨I.base.keep,I.base.slot,fun b ob e n hx=>by
   have:b≠a:=fun z=>by rw [z,h0] at e;cases e
   rw [aS this];exact I.base.free b ob e n hx,I.base.there,fun b xs e=>by
   have z:=I.base.tups b xs e
   rw [aS (aX z hn)];exact z,fun b ob u e=>by
   have z:=I.base.frzs b ob u e
   rw [aS (aX z hn)];exact z,fun b ps e=>by
   obtain ⟨m,z⟩:=I.base.tbls b ps e
   exact ⟨m,by rw [aS (aX z hn)];exact z⟩⟩
 loc:=I.loc
 cell:=I.cell
 free:=by rw [aS (Ne.symm hl)];exact I.free
 freeC:=fun x c e=>by rw [aS (hc x c e)];exact I.freeC x c e
 pin:=fun p hp'=>by
  obtain ⟨e1,e2,e3,e4,e5⟩:=I.pin p hp'
  exact ⟨e1,by rw [aS (hp p hp')];exact e2,e3,e4,e5⟩
 hok:=fun b u e=>by
  by_cases hb:b=a
  ·subst hb;rw [aR] at e;cases e;exact ho
  ·rw [aS hb] at e
   exact (I.hok b u e).stay (fun c v _ q=>q) (fun c q=>by rw [aS (aX q hn)];exact q) fun c xs q=>by rw [aS (aX q hn)];exact q
 len:=I.len
end
end L3
namespace L3
open PySem PySem.Spec PyProof.Rows L2 PySem.W
unseal PEd PEf PTd PWd PAd PSd dC POd PGd fO PId
section
variable {X:Cx} {G:Gx} {a e:Expr} {es:List Expr} {pos p:Pos} {fs:Fv} {t:Tv} {x:Str} {k:Nat} {ps:List Str} {m:Mir} {st:Stmt} {sts:List Stmt} {sa sb:Sv}
def G0 (G:Gx):Gx:={ G with E:=fun _ _=>False }
def zOX (X:Cx) (pins:List (Addr×Obj)) (σ:St) (Hi H:Hp) (c:Str) (ev:Value) (s':Shared):Prop:=
 ∃ (s1:Shared) (H1:Hp) (ea:Addr) (cls:Value) (Hi' H':Hp),ev=.ref ea/\Inv X pins σ H1 s1/\X.mg c=some cls/\Fly X.prog X.w X.stack H1 H' s1 ea cls s'/\Ext Hi H Hi' H'/\Keep H H1
def zPt (X:Cx) (G:Gx) (Hi:Hp) (E:Ends) (r:Res Fl):Prop:=match r with
 | .err _=>True
 | r=>Fin X G Hi E r
@[irreducible] def PSx (X:Cx) (G:Gx) (st:Stmt) (f:Sv):Prop:=∀ (pins:List (Addr×Obj)) (s:Shared) (σ:St) (H:Hp) (E:Ends) (ρ:Rho) (Hi:Hp) (Et:Value->Shared->Prop),
 Inv X pins σ H s->kE X G Hi H σ ρ->f ρ≠.no->zPt X G Hi E (f ρ)->(∀ c ev s',f ρ=.err c->zOX X pins σ Hi H c ev s'->Et ev s')->wpAny (model X.prog X.w) X.A (exec st X.env) (SP X pins E) Et s
unseal PSx
@[irreducible] def iY (X:Cx) (G:Gx) (sts:List Stmt) (f:Sv):Prop:=∀ (pins:List (Addr×Obj)) (s:Shared) (σ:St) (H:Hp) (E:Ends) (ρ:Rho) (Hi:Hp) (Et:Value->Shared->Prop),
 Inv X pins σ H s->kE X G Hi H σ ρ->f ρ≠.no->zPt X G Hi E (f ρ)->(∀ c ev s',f ρ=.err c->zOX X pins σ Hi H c ev s'->Et ev s')->wpAny (model X.prog X.w) X.A (execs sts X.env) (SP X pins E) Et s
unseal iY
end
end L3
namespace L3
open PySem PySem.Spec PyProof.Rows L2 PySem.W
unseal PEd PEf PTd PWd PAd PSd dC POd PGd fO PId PSx iY
section
variable {X:Cx} {G:Gx} {k:Nat} {fb fh:Sv} {body suite:List Stmt} {b₀:Stmt} {ce n:Str} {np hpos pos:Pos} {i:Nat} {tb:List Str}
end
end L3
namespace L3
open PySem PySem.Spec PyProof.Rows L2 PySem.W
unseal PEd PEf PTd PWd PAd PSd dC POd PGd fO PId PSx iY
section
variable {X:Cx} {G:Gx} {a:Expr} {p q pos:Pos} {i:Nat} {anc:List (Str×List Str)} {xs:List Str} {x:Str}
end
end L3
namespace L3
open PySem PySem.Spec PyProof.Rows L2 PySem.W
unseal PEd PEf PTd PWd PAd PSd dC POd PGd fO PId PSx iY
section
variable {K:Frag} {h:Heap} {mg:Str->Option Value} {x c ce:Str} {C CE:Addr}
theorem zAC {newId:String} {bmB:List Value} {B initId:String} (X:K.In h) (G:h.Ns mainGlobals mg) (e:nsIn K mainGlobals x=some (some (.ref C))) (q:excIn K C bmB newId=true) (F:ExcBaseFacts B newId initId bmB):∃ C,Err K mg x C:=by
 refine ⟨C,⟨fun h' X'=>⟨bmB,newId,B,initId,⟨mg_of X G e,?_⟩,F⟩⟩⟩
 unfold excIn at q
 split at q
 ·rename_i dd cd sl ho
  split at q
  ·rename_i C' bm k0 k1 k2 k3 n k5 hm hs
   simp only [Bool.and_eq_true,beq_iff_eq,Bool.not_eq_true'] at q
   obtain ⟨⟨⟨⟨⟨rfl,rfl⟩,zH⟩,ht⟩,hok⟩,hni⟩:=q
   obtain ⟨nm,bs,mro,ns,qn,hd,sn,sub,ab,col,del⟩:=cd
   dsimp only at hm zH hok hni
   subst hm zH
   have hsl:sl=#[k0,k1,k2,k3,some (.builtin n),k5]:=by
    obtain ⟨l⟩:=sl
    simp only at hs
    rw [hs]
   subst hsl
   exact ⟨bm,ns,nm,qn,bs,hd,sn,sub,ab,col,dd,k0,k1,k2,k3,k5,_,X' _ _ ho,.of_isNs (isNs_of_in X' hok),nsMap_none_of_in X' hok hni,tail_of_in X' ht⟩
  ·cases q
 ·cases q
end
end L3
namespace L3
open PySem PySem.Spec PyProof.Rows L2
unseal PEd PEf PTd PWd PAd PSd dC POd PGd fO PId PSx iY
def zCq (env:Env):List (Str×NameKind)->List (Str×Addr)->List (Str×Addr)
 | [],cs=>cs
 | (n,k)::r,cs=>zCq env r (if k==.free then (n,(env.cells.lookup n).getD 0)::cs else cs)
theorem zIJ {env:Env}:∀ (l:List (Str×NameKind)) (cs:List (Str×Addr)),(∀ p∈l,p.2=.free->∃ c,env.cells.lookup p.1=some c)->
  (forIn l cs (fun p (r:List (Str×Addr))=>if (p.2==NameKind.free)=true then (do let a <-cellOf env p.1;pure (ForInStep.yield ((p.1,a)::r))) else pure (ForInStep.yield r)):Sem (List (Str×Addr)))=pure (zCq env l cs)
 | [],cs,_=>by simp [zCq]
 | (n,k)::r,cs,h=>by
  rw [List.forIn_cons,zCq]
  have ih:=fun cs=>zIJ r cs fun p hp=>h p (List.mem_cons_of_mem _ hp)
  by_cases e:(k==NameKind.free)=true
  ·obtain ⟨c,hc⟩:=h (n,k) List.mem_cons_self (beq_iff_eq.mp e)
   simp only [e,if_true,cellOf,hc,pure_bind,Option.getD_some]
   exact ih _
  ·simp only [e,Bool.false_eq_true,if_false,pure_bind]
   exact ih _
theorem zJD {env:Env} {scope:Scope} (h:∀ p∈scope.names,p.2=.free->∃ c,env.cells.lookup p.1=some c):closureFor scope env=pure (zCq env scope.names []):=by
 have:=zIJ scope.names [] h
 unfold closureFor
 rw [<-this]
 simp
theorem sF {env:Env}:∀ (l:List (Str×NameKind)) (cs:List (Str×Addr)),(∀ p∈l,p.2=.free->∃ c,env.cells.lookup p.1=some c)->(∀ y c,cs.lookup y=some c->env.cells.lookup y=some c)->
  ∀ y c,(zCq env l cs).lookup y=some c->env.cells.lookup y=some c
 | [],cs,_,h,y,c,e=>h y c e
 | (n,k)::r,cs,hl,h,y,c,e=>by
  rw [zCq] at e
  refine sF r _ (fun p hp=>hl p (List.mem_cons_of_mem _ hp)) (fun y c e=>?_) y c e
  by_cases z:(k==NameKind.free)=true
  ·obtain ⟨c',hc⟩:=hl (n,k) List.mem_cons_self (beq_iff_eq.mp z)
   simp only [z,if_true,List.lookup_cons,hc,Option.getD_some] at e
   cases w:y==n with
   | true=>rw [w] at e;cases e;rw [beq_iff_eq.mp w];exact hc
   | false=>rw [w] at e;exact h y c e
  ·simp only [z,Bool.false_eq_true,if_false] at e
   exact h y c e
theorem zCv {env:Env}:∀ (l:List (Str×NameKind)) (cs:List (Str×Addr)) (y:Str),(∃ c,cs.lookup y=some c)->∃ c,(zCq env l cs).lookup y=some c
 | [],cs,y,h=>h
 | (n,k)::r,cs,y,⟨c,h⟩=>by
  rw [zCq]
  refine zCv r _ y ?_
  split
  ·rw [List.lookup_cons]
   cases y==n with
   | true=>exact ⟨_,rfl⟩
   | false=>exact ⟨c,h⟩
  ·exact ⟨c,h⟩
theorem rQ {env:Env}:∀ (l:List (Str×NameKind)) (cs:List (Str×Addr)) (y:Str),(y,NameKind.free)∈l->∃ c,(zCq env l cs).lookup y=some c
 | (n,k)::r,cs,y,h=>by
  rw [zCq]
  rcases List.mem_cons.mp h with e | h
  ·cases e
   refine zCv r _ _ ⟨(env.cells.lookup n).getD 0,?_⟩
   simp only [beq_self_eq_true,if_true,List.lookup_cons]
  ·exact rQ r _ y h
theorem bK {α:Type}:∀ {l:List (Str×α)} {y:Str} {k:α},l.lookup y=some k->(y,k)∈l
 | (n,k')::r,y,k,h=>by
  rw [List.lookup_cons] at h
  cases z:y==n with
  | true=>rw [z] at h;cases h;rw [beq_iff_eq.mp z];exact List.mem_cons_self
  | false=>rw [z] at h;exact List.mem_cons_of_mem _ (bK h)
theorem bZ {env:Env}:∀ {l:List (Str×NameKind)} {y:Str} {k:NameKind},
  (l.map fun (n,k)=>if (k==NameKind.free && env.scope.kind==.function && env.kindOf n==some .cell) then (n,NameKind.cell) else (n,k)).lookup y=some k->
  l.lookup y=some k∨(k=.cell/\l.lookup y=some .free)
 | (n,k')::r,y,k,h=>by
  rw [List.map_cons] at h
  rw [List.lookup_cons]
  by_cases c:(k'==NameKind.free && env.scope.kind==.function && env.kindOf n==some .cell)=true
  ·simp only [c,if_true,List.lookup_cons] at h
   cases z:y==n with
   | true=>
    rw [z] at h
    cases h
    refine .inr ⟨rfl,?_⟩
    simp only [Bool.and_eq_true] at c
    rw [beq_iff_eq.mp c.1.1]
   | false=>rw [z] at h;exact bZ h
  ·simp only [c,Bool.false_eq_true,if_false,List.lookup_cons] at h
   cases z:y==n with
   | true=>rw [z] at h;exact .inl h
   | false=>rw [z] at h;exact bZ h
def msk (x y:Str):Str:=if y=x then ("" : Str) else y
structure BlkOk (X:Cx) (x:Str) (scope:Scope):Prop where
 kind:scope.kind=.function
 cell:∀ y∈scope.names,y.2≠.cell
 loc:scope.names.lookup x=some .local
 names:∀ y∈scope.names,y.2=.local->scope.names.lookup y.1=some .local
 fre:∀ p∈scope.names,p.2=.free->X.env.kindOf p.1=some .cell∨X.env.kindOf p.1=some .free
 oth:∀ y∈X.N,y≠x->scope.names.lookup y≠some .local
 emp:scope.names.lookup ("" : Str)=none
def cxC (X:Cx) (x:Str) (scope:Scope) (C:Addr) (s₂:Shared) (H₂:Hp) (fp:List Addr):Cx:=
  { prog:=X.prog,w:=X.w,K:=X.K,mg:=X.mg,base:=X.base,A:=X.A,N:=X.N.map (msk x)++[x],s₀:=s₂,H₀:=H₂,env:=compEnvC scope (zCq X.env scope.names []) C X.env,outer:=X.stack,stack:=X.stack,
    ex:=fp,fn:=fun _=>false,calm:=X.calm,pn:=X.pn,xe:=fun _ _=>False }
section
variable {X:Cx} {pins:List (Addr×Obj)} {σ:St} {H:Hp} {s₂:Shared} {x:Str} {scope:Scope} {fp:List Addr} {D C:Addr} {h₁:Heap}
theorem BlkOk.cl (B:BlkOk X x scope) (I:Inv X pins σ H s₂):∀ p∈scope.names,p.2=.free->∃ c,X.env.cells.lookup p.1=some c:=fun p hp e=>I.ok.has p.1 (B.fre p hp e)
theorem zOI (I:Inv X pins σ H s₂) (B:BlkOk X x scope) (hfp:∀ b∈fp,qO X pins H b) (hfl:∀ b∈fp,b < s₂.heap.objs.size) (hD:s₂.heap.objs.size<=D) (hC:s₂.heap.objs.size<=C) (hDC:D≠C)
  (old:∀ b o,s₂.heap.get? b=some o->h₁.get? b=some o) {n:Nat} (hacc:h₁.get? D=some { cls:=.type "list", data:=.seq ([]:List Value).toArray n }) {m:Str->Option Value} (hns:h₁.Ns C m) (t:Nat):
  Inv (cxC X x scope C s₂ H fp) pins (σ++[none]) (upd H D (.lst [])) { s₂ with heap:=h₁,toks:=t }:=by
 have sub:=sF scope.names [] (B.cl I) (fun y c e=>nomatch e)
 have old_lt:∀ {b:Addr} {o:Obj},s₂.heap.get? b=some o->b≠D/\b≠C:=fun e=>⟨Nat.ne_of_lt (Nat.lt_of_lt_of_le (Heap.lt_size e) hD),Nat.ne_of_lt (Nat.lt_of_lt_of_le (Heap.lt_size e) hC)⟩
 have free:∀ {b:Addr},b≠D->H b=none->upd H D (.lst []) b=none:=fun n e=>by rw [aS n];exact e
 refine ⟨⟨I.ok.mod,B.kind,I.ok.glob,I.ok.blt,hC,fun y z c e1 e2=>I.ok.inj y z c (sub y c e1) (sub z c e2),fun y hy=>?_,fun y c e=>(nomatch e),I.ok.hd,I.ok.frames,.inl rfl,fun b hb=>⟨Nat.ne_of_lt (Nat.lt_of_lt_of_le (hfl b hb) hC),fun y c e=>(hfp b hb).2.2.2.2.1 y c (sub y c e)⟩,
  I.bs,Nat.le_trans I.ok.bsz I.sz,fun b o e hb=>?_,fun b hb z=>?_,I.stack,I.stkFree⟩,rfl,I.bare,Un.laid old hD (I.hok.fresh hD),⟨m,hns,fun i y v e1 e2 e3=>?_⟩,fun y c e=>?_,free (Ne.symm hDC) (I.hok.fresh hC),fun y c e=>?_,fun p hp=>?_,I.hok.laid old hD ⟨Nat.zero_le _,[],n,.nil,hacc⟩,?_⟩
 ·have:∃ k,(k=NameKind.cell∨k=NameKind.free)/\((relabel scope X.env).names).lookup y=some k:=hy.elim (fun h=>⟨_,.inl rfl,h⟩) fun h=>⟨_,.inr rfl,h⟩
  obtain ⟨k,hk,e⟩:=this
  have e':(y,NameKind.free)∈scope.names:=by
   rcases bZ e with z | ⟨_,z⟩
   ·rcases hk with rfl | rfl
    ·exact absurd rfl (B.cell _ (bK z))
    ·exact bK z
   ·exact bK z
  exact rQ scope.names [] y e'
 ·rcases (hfp b hb).2.2.2.1 with z | z
  ·exact I.ok.noex b o e z
  ·exact absurd (Nat.lt_of_lt_of_le (Heap.lt_size e) (Nat.le_trans I.ok.bsz z)) (Nat.lt_irrefl _)
 ·rcases List.mem_cons.mp (I.stkSub b z) with w | w
  ·exact (hfp b hb).2.1 w
  ·exact (hfp b hb).2.2.1 w
 ·
  have hi:i < σ.length:=by
   by_cases hi:i < σ.length
   ·exact hi
   ·exfalso
    rw [List.getElem?_append_right (by omega)] at e2
    cases q:i - σ.length with
    | zero=>rw [q] at e2;cases e2
    | succ j=>rw [q] at e2;cases e2
  rw [List.getElem?_append_left hi] at e2
  have e1':(X.N.map (msk x)++[x])[i]?=some y:=e1
  rw [List.getElem?_append_left (by rw [List.length_map,<-I.len];exact hi),List.getElem?_map] at e1'
  cases q:X.N[i]? with
  | none=>rw [q] at e1';cases e1'
  | some z=>
   rw [q] at e1'
   have e1'':msk x z=y:=Option.some.inj e1'
   have hz:z∈X.N:=List.mem_of_getElem? q
   have vis:∃ k,((relabel scope X.env).names).lookup y=some k:=e3.elim (fun h=>⟨_,h⟩) fun h=>h.elim (fun h=>⟨_,h⟩) fun h=>⟨_,h⟩
   have hzx:z≠x:=fun w=>by
    obtain ⟨k,hk⟩:=vis
    have:y=("" : Str):=by rw [<-e1'',w];exact if_pos rfl
    rw [this] at hk
    rcases bZ hk with h | ⟨_,h⟩<;>(rw [B.emp] at h;cases h)
   have hy:z=y:=by rw [<-e1''];exact (if_neg hzx).symm
   subst hy
   have fr:(z,NameKind.free)∈scope.names:=by
    rcases e3 with h | h | h
    ·rcases bZ h with h | ⟨h,_⟩
     ·exact absurd h (B.oth z hz hzx)
     ·cases h
    ·rcases bZ h with h | ⟨_,h⟩
     ·exact absurd rfl (B.cell _ (bK h))
     ·exact bK h
    ·rcases bZ h with h | ⟨h,_⟩
     ·exact bK h
     ·cases h
   have kd:=B.fre _ fr rfl
   obtain ⟨m0,hn0,hl⟩:=I.loc
   obtain ⟨u,ru,lk⟩:=hl i z v q e2 (kd.elim (fun h=>.inr (.inl h)) fun h=>.inr (.inr h))
   refine ⟨u,ru,.inr ⟨?_,?_⟩⟩
   ·rcases e3 with h | h | h
    ·rcases bZ h with h | ⟨h,_⟩
     ·exact absurd h (B.oth z hz hzx)
     ·cases h
    ·exact .inl h
    ·exact .inr h
   ·rcases lk with ⟨k1,_⟩ | ⟨_,c,hc,hcell⟩
    ·rcases kd with kd | kd<;>(rw [kd] at k1;cases k1)
    ·obtain ⟨c',hc'⟩:=rQ (env:=X.env) scope.names [] z fr
     have:=sub z c' hc'
     rw [hc] at this
     cases this
     obtain ⟨o,ho,hd⟩:=hcell
     exact ⟨c,hc',o,old _ _ ho,hd⟩
 ·obtain ⟨v,o,ho,hd⟩:=I.cell y c (sub y c e)
  exact ⟨v,o,old _ _ ho,hd⟩
 ·obtain ⟨v,o,ho,hd⟩:=I.cell y c (sub y c e)
  exact free (old_lt ho).1 (I.freeC y c (sub y c e))
 ·obtain ⟨e,n,ne,nf,d⟩:=I.pin p hp
  refine ⟨old _ _ e,free (old_lt e).1 n,(old_lt e).2,fun z=>?_,d⟩
  rcases List.mem_cons.mp (I.stkSub _ z) with w | w
  ·exact ne w
  ·exact nf w
 ·show (σ++[none]).length=(X.N.map (msk x)++[x]).length
  rw [List.length_append,List.length_append,List.length_map,I.len];rfl
end
end L3
namespace L3
open PySem PySem.Spec PyProof.Rows L2
unseal PEd PEf PTd PWd PAd PSd dC POd PGd fO PId PSx iY
section
variable {K:PySem.W.Frag} {mg:Str->Option Value} {B Bi Hi H Hi' H':Hp} {σ:St} {ρ:Rho}
theorem Rel.snoc {v:V} {d:D} (R:Rel K mg B Bi Hi H σ ρ) (h:IsD K Hi v d):Rel K mg B Bi Hi H (σ++[some v]) (ρ++[.val d]) where
 len:=by rw [List.length_append,List.length_append,R.len];rfl
 ext:=R.ext
 slot:=fun j s q=>by
  by_cases hl:j < ρ.length
  ·rw [List.getElem?_append_left hl] at q
   rw [List.getElem?_append_left (by rw [R.len];exact hl)]
   exact R.slot j s q
  ·rw [List.getElem?_append_right (by omega)] at q
   rw [List.getElem?_append_right (by rw [R.len];omega),R.len]
   cases z:j - ρ.length with
   | zero=>rw [z] at q;cases q;exact ⟨v,rfl,h⟩
   | succ n=>rw [z] at q;cases q
 dist:=fun j k a ds es q1 q2 q3 q4=>by
  have own:∀ {j:Nat} {ds:List D},(ρ++[Sl.val d])[j]?=some (.own ds)->j < ρ.length:=fun {j ds} q=>by
   by_cases hl:j < ρ.length
   ·exact hl
   ·rw [List.getElem?_append_right (by omega)] at q
    cases z:j - ρ.length with
    | zero=>rw [z] at q;cases q
    | succ n=>rw [z] at q;cases q
  have h1:=own q1
  have h2:=own q2
  rw [List.getElem?_append_left h1] at q1
  rw [List.getElem?_append_left h2] at q2
  rw [List.getElem?_append_left (by rw [R.len];exact h1)] at q3
  rw [List.getElem?_append_left (by rw [R.len];exact h2)] at q4
  exact R.dist j k a ds es q1 q2 q3 q4
theorem Ext.rewrite {a:Addr} {o:HO} (e:Ext Hi H Hi' H') (hn:H a=none) (hi:Hi' a=none) (hl:∃ xs,H' a=some (.lst xs)):Ext Hi H Hi' (upd H' a o) where
 i:=e.i
 h:=⟨fun b u z=>by rw [aS (aX z hn)];exact e.h.k _ _ z,fun P z=>by
  obtain ⟨xs,hl⟩:=hl
  exact (e.h.t P z).put (fun ps y=>by rw [hl] at y;cases y) (fun ob u y=>by rw [hl] at y;cases y)⟩
 s:=fun b u z=>by rw [aS (aX z hi)];exact e.s _ _ z
 n:=e.n
theorem IsDs.snoc {v:V} {d:D} (h:IsD K H v d):∀ {vs:List V} {ds:List D},IsDs K H vs ds->IsDs K H (vs++[v]) (ds++[d])
 | _,_,.nil=>.cons h .nil
 | _,_,.cons r t=>.cons r (IsDs.snoc h t)
end
theorem yJ {α:Type} {r:Res α} {a:α} (h:noErr r=.ok a):r=.ok a:=by
 cases r with
 | ok b=>exact h
 | err c=>cases h
 | no=>cases h
theorem zEj {t:Tv} {f:Ev} {ρ:Rho} {d:D} {ds es:List D} (h:gZ t f ρ (d::ds)=.ok es):
  (t (ρ++[.val d])=.ok false/\gZ t f ρ ds=.ok es)∨(t (ρ++[.val d])=.ok true/\∃ e es',f (ρ++[.val d])=.ok e/\gZ t f ρ ds=.ok es'/\es=e::es'):=by
 rw [gZ] at h
 cases ht:noErr (t (ρ++[.val d])) with
 | no=>rw [ht] at h;cases h
 | err c=>rw [ht] at h;cases h
 | ok c=>
  rw [ht] at h
  have ht':=yJ ht
  cases c with
  | false=>exact .inl ⟨ht',h⟩
  | true=>
   refine .inr ⟨ht',?_⟩
   have h':((noErr (f (ρ++[.val d]))).bind fun e=>(gZ t f ρ ds).bind fun es=>.ok (e::es))=.ok es:=h
   cases hf:noErr (f (ρ++[.val d])) with
   | no=>rw [hf] at h';cases h'
   | err c=>rw [hf] at h';cases h'
   | ok e=>
    rw [hf] at h'
    have h'':((gZ t f ρ ds).bind fun es=>.ok (e::es))=.ok es:=h'
    cases hr:gZ t f ρ ds with
    | no=>rw [hr] at h'';cases h''
    | err c=>rw [hr] at h'';cases h''
    | ok es'=>
     rw [hr] at h''
     cases h''
     exact ⟨e,es',yJ hf,rfl,rfl⟩
theorem yW {t:Tv} {f:Ev} {ρ:Rho} {c:Str}:∀ {ds:List D},gZ t f ρ ds≠.err c
 | []=>fun h=>by cases h
 | d::ds=>fun h=>by
  rw [gZ] at h
  cases ht:noErr (t (ρ++[.val d])) with
  | no=>rw [ht] at h;cases h
  | err c=>cases q:t (ρ++[.val d])<;>(rw [q] at ht;cases ht)
  | ok b=>
   rw [ht] at h
   cases b with
   | false=>exact yW h
   | true=>
    have h':((noErr (f (ρ++[.val d]))).bind fun e=>(gZ t f ρ ds).bind fun es=>.ok (e::es))=.err c:=h
    cases hf:noErr (f (ρ++[.val d])) with
    | no=>rw [hf] at h';cases h'
    | err c=>cases q:f (ρ++[.val d])<;>(rw [q] at hf;cases hf)
    | ok e=>
     rw [hf] at h'
     cases hr:gZ t f ρ ds with
     | no=>simp only [Res.bind,hr] at h';cases h'
     | err c'=>exact yW hr
     | ok es=>simp only [Res.bind,hr] at h';cases h'
@[irreducible] def PTs (X:Cx) (G:Gx) (ifs:List Expr) (t:Tv):Prop:=
 ∀ (pins:List (Addr×Obj)) (s:Shared) (σ:St) (H:Hp) (Q:Bool->Hp->Prop),Inv X pins σ H s->tTb X G t σ H Q->
  wpAny (model X.prog X.w) X.A (forIn ifs true fun c r=>if r=true then do let ok <-isTrue c X.env (eval c X.env);pure (ForInStep.yield ok) else pure (ForInStep.yield r)) (TP X pins σ Q) X.xe s
unseal PTs
theorem lA {X:Cx} {G:Gx}:PTs X G [] jT:=fun pins s σ H Q I ⟨ρ,Hi,R,o⟩=>wpAny_tests_nil ⟨H,I,Out.here (a:=true) o R.s⟩
end L3
namespace L3
open PySem PySem.Spec PyProof.Rows L2
unseal PEd PEf PTd PWd PAd PSd dC POd PGd fO PId PSx iY PTs
section
variable {X:Cx} {G:Gx} {elt iter:Expr} {x:Str} {px pos:Pos} {ifs:List Expr} {scope:Scope} {it:Fv} {t:Tv} {f:Ev} {k:Nat}
theorem zKC {M:Model} {A:Around} {α:Type} {m:Sem α} {itv u:Value} {s:Shared} {Q1:Unit->Shared->Prop} {R1:α->Shared->Prop} {E:Value->Shared->Prop} (h:wpAny M A (letOwnedTupleGo (.Name x px) itv u) Q1 E s)
  (k:∀ s5,Q1 () s5->wpAny M A m R1 E s5):wpAny M A m R1 E s:=by
 have key:=wpAny_bind (f:=fun _:Unit=>m) (wpAny_mono h (fun _ s5 h5=>k s5 h5) fun _ _ z=>z)
 have e:(letOwnedTupleGo (.Name x px) itv u >>= fun _=>m)=m:=pure_bind () fun _=>m
 rw [e] at key
 exact key
theorem zEu {N:List Str} (hN:N.Nodup) (h0:("" : Str)∉N) (hx:x≠("" : Str)):(N.map (msk x)++[x]).Nodup:=by
 rw [List.nodup_append]
 refine ⟨?_,List.nodup_cons.mpr ⟨by simp,List.nodup_nil⟩,fun a ha b hb e=>?_⟩
 ·induction N with
  | nil=>exact List.nodup_nil
  | cons y N ih=>
   rw [List.map_cons,List.nodup_cons]
   obtain ⟨hy,hN⟩:=List.nodup_cons.mp hN
   refine ⟨fun hm=>?_,ih hN fun z=>h0 (List.mem_cons_of_mem _ z)⟩
   obtain ⟨z,hz,e⟩:=List.mem_map.mp hm
   unfold msk at e
   by_cases c1:z=x
   ·by_cases c2:y=x
    ·exact hy (by rw [c2,<-c1];exact hz)
    ·rw [if_pos c1,if_neg c2] at e;exact h0 (by rw [e];exact List.mem_cons_self)
   ·by_cases c2:y=x
    ·rw [if_neg c1,if_pos c2] at e;exact h0 (by rw [<-e];exact List.mem_cons_of_mem _ hz)
    ·rw [if_neg c1,if_neg c2] at e;exact hy (by rw [<-e];exact hz)
 ·obtain ⟨z,hz,e1⟩:=List.mem_map.mp ha
  rw [List.mem_singleton] at hb
  subst hb
  subst e
  unfold msk at e1
  split at e1
  ·exact hx e1.symm
  ·rename_i c;exact c e1
structure CW where
 i:Nat
 v:List (Option V)
 H:Hp
 Hi:Hp
 ys:List V
 done:List D
 rest:List D
structure CS (Y:Cx) (pins:List (Addr×Obj)) (σ:St) (tn:Nat->Heap->Prop) (fp:List Addr) (Hi2 H2:Hp) (a:Addr) (m:Nat) (cp:Nat->Res (List D)) (es:List D) (c:CW) (s':Shared):Prop where
 inv:Inv Y pins (σ++c.v) c.H s'
 wid:c.v.length=m
 tn:tn c.i s'.heap
 fr:∀ b∈fp,c.H b=none
 ext:Ext Hi2 H2 c.Hi c.H
 acc:c.H a=some (.lst c.ys)
 hi:c.Hi a=none
 isd:IsDs Y.K c.Hi c.ys c.done
 len:c.done.length<=c.i
 cmp:cp c.i=.ok c.rest
 all:es=c.done++c.rest
def zPo (X:Cx) (pins:List (Addr×Obj)) (σ:St) (use:Option (Value->Sem Unit)) (Q':Value->Shared->Prop) (Qa:Addr->Hp->Prop):Prop:=
 ∀ (C A:Addr) (m:Str->Option Value) (s4:Shared) (H3:Hp),s4.heap.Ns C m->(∀ h',Heap.SameBut C s4.heap h'->Inv X pins σ H3 { s4 with heap:=h' })->qO X pins H3 C->Qa A H3->
  compPost (model X.prog X.w) X.A X.xe use Q' (.ref A) C (.ok .next) s4
theorem zBh (hc:X.calm=true/\TB X.K X.mg G.Bi G.B) (hr:Room k X.A) (Bk:BlkOk X x scope) (hN:X.N.Nodup) (h0:("" : Str)∉X.N) (hx0:x≠("" : Str)) (hi:PId X G (.Name x px) iter it)
  (hb:∀ (C:Addr) (s₂:Shared) (H₂:Hp) (fp:List Addr) (G':Gx),Good (cxC X x scope C s₂ H₂ fp) G' k->PTs (cxC X x scope C s₂ H₂ fp) G' ifs t/\PEd (cxC X x scope C s₂ H₂ fp) G' elt f)
  (hs:∀ x,foldedSetIterable iter X.env x=pure x:=by intro _;rfl)
  {pins:List (Addr×Obj)} {s:Shared} {σ:St} {H Hi:Hp} {ρ:Rho} {use:Option (Value->Sem Unit)} {Q':Value->Shared->Prop} {Qa:Addr->Hp->Prop} {cpos:Pos} (I:Inv X pins σ H s) (R:kE X G Hi H σ ρ)
  (ou:Out G Hi H ((kK it t f) ρ) fun ds Hi' H'=>∀ a,zIi X.K H Hi' H' a ds->Qa a H') (hend:zPo X pins σ use Q' Qa):
  wpAny (model X.prog X.w) X.A (comprehension (.ListComp elt [⟨.Name x px,iter,ifs,0⟩] scope pos) scope X.env cpos (newList []) false (eval iter X.env) use) Q' X.xe s:=by
 refine wpAny_comprehension_free (use:=use) rfl hs (zJD (Bk.cl I)) Bk.kind Bk.names ?_
 refine thn (hi pins s σ H (fun J H2=>∃ ds Hi2,Ext Hi H Hi2 H2/\sQ X.K Hi2 J ds/\Out G Hi2 H2 (if ds.length<=16777215 then gZ t f ρ ds else .no) fun ds Hi' H'=>∀ a,zIi X.K H Hi' H' a ds->Qa a H') I
  ⟨ρ,Hi,R,(Out.bind ou).imp fun ds Hi2 H2 e2 o2 J gv=>⟨ds,Hi2,e2,gv,o2⟩⟩) fun v s1 h1=>thn h1 fun itv s2 h2=>?_
 obtain ⟨itA,fp,tn,J,H2,rfl,I2,T,st2,f2,ds,Hi2,e2,gv,ou2⟩:=h2
 have hlen:ds.length<=16777215:=by
  by_cases hlen:ds.length<=16777215
  ·exact hlen
  ·rw [if_neg hlen] at ou2;exact ou2.elim
 rw [if_pos hlen] at ou2
 cases hes:gZ t f ρ ds with
 | no=>rw [hes] at ou2;exact ou2.elim
 | err c=>exact absurd hes yW
 | ok es=>
  rw [hes] at ou2
  have R2:kE X G Hi2 H2 σ ρ:=R.grow e2
  refine wpAny_newObj_type (wpAny_newFunctionEnv Bk.cell (by intro y hy;simp at hy) (fun h₁ hns₁ hsb₁=>?_) Bk.kind)
  dsimp only at hns₁ hsb₁ ⊢
  generalize hH2:s2.heap.push { cls:=.type "list", dict:=none,data:=.seq ([]:List Value).toArray }=HP at hns₁ hsb₁ ⊢
  have hC:HP.objs.size=s2.heap.objs.size+1:=by rw [<-hH2,Heap.size_push]
  have hDC:s2.heap.objs.size≠HP.objs.size:=by rw [hC];omega
  have ltC:∀ {b:Addr} {o:Obj},s2.heap.get? b=some o->b≠HP.objs.size:=fun e=>by rw [hC];exact Nat.ne_of_lt (Nat.lt_succ_of_lt (Heap.lt_size e))
  have old:∀ b o,s2.heap.get? b=some o->h₁.get? b=some o:=fun b o e=>hsb₁.extBut b o (ltC e) (Heap.get?_push_of_some _ (hH2 ▸ Heap.get?_push_of_some _ e))
  have hacc:h₁.get? s2.heap.objs.size=some { cls:=.type "list", data:=.seq ([]:List Value).toArray 0 }:=hsb₁.extBut _ _ hDC (Heap.get?_push_of_some _ (hH2 ▸ Heap.get?_push_size _ rfl))
  have hfl:∀ b∈fp,b < s2.heap.objs.size:=fun b hb=>by obtain ⟨o,e,_⟩:=T.obj _ _ st2 b hb;exact Heap.lt_size e
  have IE:=zOI (t:=s2.toks+([]:List (Str×Value)).length) I2 Bk f2 hfl (Nat.le_refl _) (by rw [hC];omega) hDC old hacc hns₁
  have sub:=sF scope.names [] (Bk.cl I2) (fun y c e=>nomatch e)
  have H2D:H2 s2.heap.objs.size=none:=I2.hok.fresh (Nat.le_refl _)
  have HD:H s2.heap.objs.size=none:=e2.h.none H2D
  have Hi2D:Hi2 s2.heap.objs.size=none:=e2.s.none H2D
  generalize hX:cxC X x scope HP.objs.size s2 H2 fp=Y at IE
  have GY:Good Y ⟨G.B,G.Bi,fun _ _=>False⟩ k:=by
   subst hX
   exact ⟨hc.1,hr,fun pins σ H s e s' _ h=>by obtain ⟨_,_,_,_,_,c,_,z⟩:=h;exact z.elim,PassesOwn.never,hc.2⟩
  obtain ⟨hts,hel⟩:=(hX ▸ hb HP.objs.size s2 H2 fp ⟨G.B,G.Bi,fun _ _=>False⟩ (hX.symm ▸ GY):PTs Y ⟨G.B,G.Bi,fun _ _=>False⟩ ifs t/\PEd Y ⟨G.B,G.Bi,fun _ _=>False⟩ elt f)
  have stat:∀ {H':Hp},(∀ b∈fp,H' b=none)->∀ b∈fp,qO Y pins H' b:=fun hn b hb=>by
   subst hX
   refine ⟨hn b hb,?_,fun z=>?_,.inl hb,fun y c e=>(f2 b hb).2.2.2.2.1 y c (sub y c e),(f2 b hb).2.2.2.2.2⟩
   ·show b≠HP.objs.size
    rw [hC];exact Nat.ne_of_lt (Nat.lt_succ_of_lt (hfl b hb))
   ·rcases List.mem_cons.mp (I2.stkSub b z) with w | w
    ·exact (f2 b hb).2.1 w
    ·exact (f2 b hb).2.2.1 w
  have YN:Y.N.Nodup:=by subst hX;exact zEu hN h0 hx0
  have Yx:Y.N[σ.length]?=some x:=by
   subst hX
   show (X.N.map (msk x)++[x])[σ.length]?=some x
   rw [List.getElem?_append_right (by rw [List.length_map,I2.len];omega),List.length_map,I2.len,Nat.sub_self]
   rfl
  have Yl:Y.env.scope.names.lookup x=some .local:=by subst hX;exact lookup_relabel_local Bk.loc
  have Ye:Y.env=compEnvC scope (zCq X.env scope.names []) HP.objs.size X.env:=by subst hX;rfl
  have Yxe:∀ e s,¬ Y.xe e s:=by subst hX;exact fun _ _ h=>h
  have tn1:tn 0 h₁:=T.keep _ _ _ st2 fun b _ o e=>old b o e
  have eN:∀ s3:Shared,s3={ s2 with heap:=h₁,toks:=s2.toks+([]:List (Str×Value)).length }->
    codeAny (model X.prog X.w) X.A (.compLoop (.ListComp elt [⟨.Name x px,iter,ifs,0⟩] scope pos) 0 (.ref itA) (.ref s2.heap.objs.size) Y.env) (compPost (model X.prog X.w) X.A X.xe use Q' (.ref s2.heap.objs.size) HP.objs.size) s3:=by
   rintro s3 rfl
   subst hX
   have fr0:∀ b∈fp,upd H2 s2.heap.objs.size (.lst []) b=none:=fun b hb=>by
    rw [aS (Nat.ne_of_lt (hfl b hb))]
    exact (f2 b hb).1
   refine codeAny_compLoop_tests (fun n s'=>∃ c:CW,n=ds.length - c.i/\CS (cxC X x scope HP.objs.size s2 H2 fp) pins σ tn fp Hi2 H2 s2.heap.objs.size 1 (fun i=>gZ t f ρ (ds.drop i)) es c s') ?_ ds.length
    ⟨⟨0,[none],_,Hi2,[],[],es⟩,rfl,⟨IE,rfl,tn1,fr0,(Ext.refl e2.s).trans (Ext.newF e2.s H2D),aR,Hi2D,.nil,Nat.le_refl _,hes,rfl⟩⟩
   ·rintro n s3 ⟨⟨i,vv,H3,Hi3,ys,done,rest⟩,rfl,I3,wd3,st3,fr3,e3,hD3,hiD3,rd3,hl3,hr3,hes3⟩
    dsimp only at I3 wd3 st3 fr3 e3 hD3 hiD3 rd3 hl3 hr3 hes3 ⊢
    obtain ⟨v,rfl⟩:∃ v,vv=[v]:=by
     match vv,wd3 with
     | [v],_=>exact ⟨v,rfl⟩
    obtain ⟨w1,w2⟩:=gv Hi3 H3 e3.i e3.s i
    have lift:∀ {α:Type} {m:Sem α} {Q':α->Shared->Prop} {E:Value->Shared->Prop} {s':Shared},wpAny (model X.prog X.w) X.A m Q' (cxC X x scope HP.objs.size s2 H2 fp).xe s'->wpAny (model X.prog X.w) X.A m Q' E s':=fun h=>wpAny_mono h (fun _ _ z=>z) fun e s z=>(Yxe e s z).elim
    by_cases hlt:i < ds.length
    ·obtain ⟨d,hd⟩:∃ d,ds[i]?=some d:=⟨_,List.getElem?_eq_getElem hlt⟩
     obtain ⟨go,yl⟩:=w2 d hd
     have e4:ds.drop i=d::ds.drop (i+1):=by
      rw [List.getElem?_eq_getElem hlt] at hd
      cases hd
      exact List.drop_eq_getElem_cons hlt
     rw [e4] at hr3
     refine thn (T.item (cxC X x scope HP.objs.size s2 H2 fp) rfl rfl rfl hc.1 i pins s3 _ H3 _ I3 (stat fr3) st3 go) fun r s4 ⟨u,hru,h4⟩=>?_
     subst hru
     refine zKC h4 fun s5 h5=>?_
     obtain ⟨xv,H5,I5,r5,y5,st5,fr5⟩:=h5
     obtain ⟨Hi5,e5,rd5⟩:=yl xv H5 y5
     have I5':=I5.pinned (stat fr5) (T.obj _ _ st5)
     refine wpAny_assign_Name (rG I5' YN Yx (.inl Yl) r5 (fun s6 I6=>?_) (.inr Yl))
     have es6:(σ++[v]).set σ.length (some xv)=σ++[some xv]:=by rw [List.set_append_right _ _ (Nat.le_refl _),Nat.sub_self];rfl
     rw [es6] at I6
     have E5:Ext Hi2 H2 Hi5 H5:=e3.trans e5
     have R5:kE (cxC X x scope HP.objs.size s2 H2 fp) ⟨G.B,G.Bi,fun _ _=>False⟩ Hi5 H5 (σ++[some xv]) (ρ++[.val d]):=Rel.snoc (R2.grow E5) rd5
     obtain ⟨hD5,hiD5⟩:=e5.out hD3 hiD3
     have rd5':=rd3.mono e5.i
     have again:∀ {H8 Hi8:Hp} {ys':List V} {done' rest':List D} {s8:Shared},Inv (cxC X x scope HP.objs.size s2 H2 fp) (pins++tJ fp s5.heap) (σ++[some xv]) H8 s8->Ext Hi2 H2 Hi8 H8->H8 s2.heap.objs.size=some (.lst ys')->Hi8 s2.heap.objs.size=none->IsDs X.K Hi8 ys' done'->done'.length<=i+1->
       gZ t f ρ (ds.drop (i+1))=.ok rest'->es=done'++rest'->∃ m,m < ds.length - i/\∃ c:CW,m=ds.length - c.i/\CS (cxC X x scope HP.objs.size s2 H2 fp) pins σ tn fp Hi2 H2 s2.heap.objs.size 1 (fun i=>gZ t f ρ (ds.drop i)) es c s8:=fun {H8 Hi8 ys' done' rest' s8} I8 E8 a1 a2 a3 a4 a5 a6=>by
      refine ⟨ds.length - (i+1),by omega,⟨i+1,[some xv],H8,Hi8,ys',done',rest'⟩,rfl,⟨I8.unpinned,rfl,T.keep _ _ _ st5 fun b hb o e=>(I8.pin (b,o) (List.mem_append_right _ (List.mem_append_right _ (eM hb e)))).1,fun b hb=>?_,E8,a1,a2,a3,a4,a5,a6⟩⟩
      obtain ⟨o,e,_⟩:=T.obj _ _ st5 b hb
      exact (I8.pin (b,o) (List.mem_append_right _ (List.mem_append_right _ (eM hb e)))).2.1
     rcases zEj hr3 with ⟨ht,hr4⟩ | ⟨ht,e,es',hf,hr4,hee⟩
     ·refine lift (thn (hts _ s6 _ H5 (fun b H'=>b=false/\∃ Hi',Ext Hi5 H5 Hi' H') I6 ⟨_,Hi5,R5,by rw [ht];exact fun Hi' H' e=>⟨rfl,Hi',e⟩⟩) fun b s7 h7=>?_)
      obtain ⟨H7,I7,rfl,Hi7,e7⟩:=h7
      obtain ⟨hD7,hiD7⟩:=e7.out hD5 hiD5
      exact again I7 (E5.trans e7) hD7 hiD7 (rd5'.mono e7.i) (by omega) hr4 hes3
     ·refine lift (thn (hts _ s6 _ H5 (fun b H'=>b=true/\∃ Hi',Ext Hi5 H5 Hi' H') I6 ⟨_,Hi5,R5,by rw [ht];exact fun Hi' H' e=>⟨rfl,Hi',e⟩⟩) fun b s7 h7=>?_)
      obtain ⟨H7,I7,rfl,Hi7,e7⟩:=h7
      obtain ⟨hD7,hiD7⟩:=e7.out hD5 hiD5
      simp only [if_true]
      refine lift (thn (hel _ s7 _ H7 (fun w H'=>∃ Hi',Ext Hi7 H7 Hi' H'/\IsD X.K Hi' w e) I7 ⟨_,Hi7,R5.grow e7,by rw [hf];exact fun Hi' H' ee w hw=>⟨Hi',ee,hw⟩⟩) fun u8 s8 h8=>?_)
      obtain ⟨w8,H8,I8,r8,Hi8,e8,rw8⟩:=h8
      obtain ⟨hD8,hiD8⟩:=e8.out hD7 hiD7
      have rdy:IsDs X.K Hi8 ys done:=(rd5'.mono e7.i).mono e8.i
      refine lift (thn (oT (X:=(cxC X x scope HP.objs.size s2 H2 fp)) _ s8 _ H8 (.ref s2.heap.objs.size) [w8] (.ref s2.heap.objs.size) [u8] (fun _ H'=>H'=upd H8 s2.heap.objs.size (.lst (ys++[w8]))) I8 rfl (.cons r8 .nil) ⟨_,ys,w8,rfl,rfl,hD8,?_,rfl⟩) fun _ s9 h9=>?_)
      ·rw [rdy.length]
       exact Nat.lt_of_le_of_lt hl3 (Nat.lt_of_lt_of_le hlt (Nat.le_trans hlen (by decide)))
      ·obtain ⟨_,H9,I9,_,rfl⟩:=h9
       refine again I9 (Ext.rewrite ((E5.trans e7).trans e8) H2D hiD8 ⟨_,hD8⟩) aR hiD8 (rdy.snoc rw8) (by rw [List.length_append];exact Nat.succ_le_succ hl3) hr4 ?_
       rw [hes3,hee,List.append_assoc];rfl
    ·rw [List.drop_eq_nil_of_le (by omega),gZ] at hr3
     cases hr3
     refine thn (T.done (cxC X x scope HP.objs.size s2 H2 fp) rfl rfl rfl hc.1 i pins s3 _ H3 _ I3 (stat fr3) st3 (w1 (by omega))) fun r s4 ⟨hrn,I4⟩=>?_
     subst hrn
     obtain ⟨m4,hn4,_⟩:=I4.loc
     have fC:H3 HP.objs.size=none:=I4.free
     have nC:∀ b u,H3 b=some u->b≠HP.objs.size:=fun b u e z=>by rw [z,fC] at e;cases e
     have U4:=I4.base
     refine hend HP.objs.size s2.heap.objs.size m4 s4 H3 hn4 (fun h' hs'=>?_) (I2.fpOk (by rw [hC];omega) fC) ?_
     ·have kp:∀ b o,b≠HP.objs.size->s4.heap.get? b=some o->h'.get? b=some o:=fun b o hb e=>hs'.extBut b o hb e
      refine Inv.call' I2 (ch:=fp) I4.os ⟨fun b o e n hb hx=>kp b o (ltC e) (U4.keep b o e n hb hx),fun b o e n hb hx=>?_,U4.free,fun b o e hx=>?_,U4.tups,U4.frzs,U4.tbls⟩ (fun b u e=>?_) I4.bare (fun b hb=>⟨(f2 b hb).2.2.2.1,(f2 b hb).2.1,(f2 b hb).2.2.2.2.1,(f2 b hb).2.2.2.2.2⟩)
      ·obtain ⟨sl,q⟩:=U4.slot b o e n hb hx
       exact ⟨sl,kp b _ (ltC e) q⟩
      ·obtain ⟨o',q⟩:=U4.there b o e hx
       exact ⟨o',kp b _ (ltC e) q⟩
      ·refine (I4.hok b u e).stay (fun c v hc q=>kp c v ?_ q) (fun _ q=>q) fun _ _ q=>q
       rcases hc with z | z
       ·rw [z];exact nC b u e
       ·exact nC c _ z
     ·refine ou2 Hi3 H3 e3 _ ⟨HD,hiD3,ys,hD3,?_⟩
      rw [hes3,List.append_nil]
      exact rd3
  rw [Ye] at eN
  exact codeAny_compStart_list (eN _ rfl) (T.self _ 0 _ _ _ tn1 (eN _ rfl))
theorem zKW (hc:X.calm=true/\TB X.K X.mg G.Bi G.B) (hr:Room k X.A) (Bk:BlkOk X x scope) (hN:X.N.Nodup) (h0:("" : Str)∉X.N) (hx0:x≠("" : Str)) (hi:PId X G (.Name x px) iter it)
  (hb:∀ (C:Addr) (s₂:Shared) (H₂:Hp) (fp:List Addr) (G':Gx),Good (cxC X x scope C s₂ H₂ fp) G' k->PTs (cxC X x scope C s₂ H₂ fp) G' ifs t/\PEd (cxC X x scope C s₂ H₂ fp) G' elt f)
  (hs:∀ x,foldedSetIterable iter X.env x=pure x:=by intro _;rfl):PEf X G (.ListComp elt [⟨.Name x px,iter,ifs,0⟩] scope pos) (kK it t f):=by
 intro pins s σ H Q I w
 obtain ⟨ρ,Hi,R,ou⟩:=w
 rw [eval_ListComp]
 refine zBh hc hr Bk hN h0 hx0 hi hb hs (use:=none) (Qa:=fun a H'=>Q (.ref a) H') I R ou fun C A m s4 H3 hn hI _ q=>?_
 exact ⟨m,hn,fun h' hs'=>⟨.ref A,H3,hI h' hs',rfl,q⟩⟩
def PC (X:Cx) (e:Expr) (t:TE):Prop:=∀ (pins:List (Addr×Obj)) (s:Shared) (σ:St) (H:Hp) (Q:VK),Inv X pins σ H s->t σ H Q->∀ (u:Value->Sem Unit) (Q':Unit->Shared->Prop),
 (∀ (C:Addr) (m:Str->Option Value) (s4:Shared) (v:V) (w:Value) (H3:Hp),s4.heap.Ns C m->(∀ h',Heap.SameBut C s4.heap h'->Inv X pins σ H3 { s4 with heap:=h' })->qO X pins H3 C->cP v w->Q v H3->
  wpAny (model X.prog X.w) X.A (u w) (fun _ s''=>∃ m,s''.heap.Ns C m/\∀ h',Heap.SameBut C s''.heap h'->Q' () { s'' with heap:=h' }) X.xe s4)->wpAny (model X.prog X.w) X.A (evalThenUse e X.env u) Q' X.xe s
theorem PC.wk {X:Cx} {e:Expr} {t t':TE} (h:PC X e t) (w:∀ σ H Q,t' σ H Q->t σ H Q):PC X e t':=fun pins s σ H Q I q=>h pins s σ H Q I (w σ H Q q)
@[irreducible] def PCd (X:Cx) (G:Gx) (e:Expr) (f:Ev):Prop:=PC X e (tD X G f)
unseal PCd
@[irreducible] def PCf (X:Cx) (G:Gx) (e:Expr) (f:Fv):Prop:=PC X e (tF X G f)
unseal PCf
theorem zJL (hc:X.calm=true/\TB X.K X.mg G.Bi G.B) (hr:Room k X.A) (Bk:BlkOk X x scope) (hN:X.N.Nodup) (h0:("" : Str)∉X.N) (hx0:x≠("" : Str)) (hi:PId X G (.Name x px) iter it)
  (hb:∀ (C:Addr) (s₂:Shared) (H₂:Hp) (fp:List Addr) (G':Gx),Good (cxC X x scope C s₂ H₂ fp) G' k->PTs (cxC X x scope C s₂ H₂ fp) G' ifs t/\PEd (cxC X x scope C s₂ H₂ fp) G' elt f)
  (hs:∀ x,foldedSetIterable iter X.env x=pure x:=by intro _;rfl):PCf X G (.ListComp elt [⟨.Name x px,iter,ifs,0⟩] scope pos) (kK it t f):=by
 intro pins s σ H Q I w u Q' hend
 obtain ⟨ρ,Hi,R,ou⟩:=w
 rw [arm_evalThenUse_ListComp]
 refine wpAny_bind (zBh hc hr Bk hN h0 hx0 hi hb hs (use:=some u) (Q':=fun _ s=>wpAny (model X.prog X.w) X.A (pure ()) Q' X.xe s) (Qa:=fun a H'=>Q (.ref a) H') I R ou fun C A m s4 H3 hn hI fo q=>?_)
 refine thn (hend C m s4 (.ref A) (.ref A) H3 hn hI fo rfl q) fun _ s5 h5=>?_
 obtain ⟨m5,hn5,h5⟩:=h5
 exact ⟨m5,hn5,fun h' hs'=>wpAny_pure (h5 h' hs')⟩
theorem PCf.d (h:PCf X G e fs):PCd X G e (eF fs):=PC.wk h fun σ H Q q=>by
 obtain ⟨ρ,Hi,R,ou⟩:=q
 refine ⟨ρ,Hi,R,?_⟩
 cases z:fs ρ with
 | no=>unfold eF at ou;rw [z] at ou;exact ou
 | err c=>unfold eF at ou;rw [z] at ou;exact ou
 | ok ds=>
  unfold eF at ou;rw [z] at ou
  intro Hi1 H1 e1 a n
  obtain ⟨n1,n2,xs,n3,n4⟩:=n
  have o2:∀ Hi' H',Ext Hi H Hi' H'->∀ v,IsD X.K Hi' v (.lst ds)->Q v H':=ou
  exact o2 _ _ (e1.hold n1 n3 n2) (.ref a) (.lst (SqL.of aR) (n4.mono (cG n2 _)))
theorem zFi {i:Nat} {y:Str} {e:Expr} {te:TE} {pos' pos:Pos} (hN:X.N.Nodup) (hi:X.N[i]?=some y) (hx:Loc X.env.scope y) (he:PC X e te) (hs:swapsWith e (some (.Name y pos')) pos.line X.env=pure true)
  (hf:X.fn y=true∨X.env.scope.names.lookup y=some .local):PS X (.Assign [.Name y pos'] e pos) (zOt te (L2.gName i)):=by
 intro pins s σ H E I h
 rw [exec_Assign_Name_used _ _ _ _ hs]
 refine wpAny_bind (wpAny_standAt (wpAny_bind ?_))
 refine he pins s σ H _ I h _ _ fun C m s4 v w H3 hn hI fo r q=>?_
 have I4:Inv X pins σ H3 s4:=hI s4.heap (Heap.SameBut.refl _ _)
 refine wpAny_assign_Name (zAO I4 hN hi hx r (fun s5 I5 sb=>?_) hf)
 obtain ⟨a,sb,ha⟩:=sb
 have aC:C≠a:=by
  rcases ha with rfl | ha
  ·exact fo.2.1
  ·exact fun z=>fo.2.2.2.2.1 y a ha z.symm
 refine ⟨m,hn.sameBut sb aC,fun h' hs'=>wpAny_pure ?_⟩
 have fC:=fo.1
 have nC:∀ b u,H3 b=some u->b≠C:=fun b u e z=>by rw [z,fC] at e;cases e
 have kp:∀ b o,b≠C->s5.heap.get? b=some o->h'.get? b=some o:=fun b o hb e=>hs'.extBut b o hb e
 refine ⟨σ.set i (some v),H3,?_,q⟩
 refine Inv.call' I5 (ch:=[C]) rfl ⟨fun b o e n hb hx=>kp b o (by simpa using hx) e,fun b o e n hb hx=>⟨o.slots,kp b _ (by simpa using hx) e⟩,fun b o e n hx=>n,fun b o e hx=>⟨o,kp b _ (by simpa using hx) e⟩,fun _ _ q=>q,fun _ _ _ q=>q,fun _ ps q=>⟨#[],by simpa using q⟩⟩ (fun b u e=>?_) I5.bare (fun b hb=>?_)
 ·refine (I5.hok b u e).stay (fun c v hc q=>kp c v ?_ q) (fun _ q=>q) fun _ _ q=>q
  rcases hc with z | z
  ·rw [z];exact nC b u e
  ·exact nC c _ z
 ·have e:b=C:=by simpa using hb
  subst e
  exact ⟨fo.2.2.2.1,fo.2.1,fo.2.2.2.2.1,fo.2.2.2.2.2⟩
theorem zND {i:Nat} {y:Str} {e:Expr} {f:Ev} {pos' pos:Pos} (hN:X.N.Nodup) (hi:X.N[i]?=some y) (hx:Loc X.env.scope y) (he:PCd X G e f) (hs:swapsWith e (some (.Name y pos')) pos.line X.env=pure true)
  (hf:X.fn y=true∨X.env.scope.names.lookup y=some .local:=by first | exact .inl rfl | exact .inr rfl | assumption):PSd X G (.Assign [.Name y pos'] e pos) (dP i f):=PS.wk (zFi hN hi hx he hs hf) fun E σ H q=>by
 obtain ⟨ρ,Hi,R,h⟩:=q
 exact ⟨ρ,Hi,R,mY R h fun d Hi' H' _ e h' v r=>h' _ Hi' H' (Same.refl _) ((R.grow e).set r)⟩
end
end L3
namespace L3
open PySem PySem.Spec PyProof.Rows L2
unseal PEd PEf PTd PWd PAd PSd dC POd PGd fO PId PSx iY PTs PCd PCf
def zNO (sc:Scope) (N:List Str) (x:Str) (scope:Scope):Bool:=
 scope.names.all (fun y=>y.2 != .cell) && scope.names.lookup x==some .local && scope.names.all (fun y=>y.2 != .local || scope.names.lookup y.1==some .local)
  && scope.names.all (fun p=>p.2 != .free || (sc.names.lookup p.1==some .cell || sc.names.lookup p.1==some .free)) && N.all (fun y=>y==x || scope.names.lookup y != some .local) && (scope.names.lookup ("" : Str)).isNone && !N.contains ("" : Str) && x != ("" : Str)
section
variable {X:Cx} {G:Gx} {elt iter:Expr} {x:Str} {px pos:Pos} {ifs:List Expr} {scope sc:Scope} {it:Fv} {t:Tv} {f:Ev} {k:Nat} {N:List Str}
theorem zIO (hk:scope.kind=.function) (hsc:X.env.scope=sc) (hN:X.N=N) (h:zNO sc N x scope=true):BlkOk X x scope/\("" : Str)∉X.N/\x≠("" : Str):=by
 unfold zNO at h
 simp only [Bool.and_eq_true] at h
 obtain ⟨⟨⟨⟨⟨⟨⟨h1,h2⟩,h3⟩,h4⟩,h5⟩,h6⟩,h7⟩,h8⟩:=h
 subst hN hsc
 refine ⟨⟨hk,fun y hy e=>?_,beq_iff_eq.mp h2,fun y hy e=>?_,fun p hp e=>?_,fun y hy hne e=>?_,?_⟩,fun z=>?_,fun z=>?_⟩
 ·have:=List.all_eq_true.mp h1 y hy
  rw [e] at this;cases this
 ·have:=List.all_eq_true.mp h3 y hy
  rw [e] at this
  simpa using this
 ·have:=List.all_eq_true.mp h4 p hp
  rw [e] at this
  have q:X.env.scope.names.lookup p.1=some .cell∨X.env.scope.names.lookup p.1=some .free:=by simpa using this
  exact q
 ·have:=List.all_eq_true.mp h5 y hy
  rw [e] at this
  simp [hne] at this
 ·simpa using h6
 ·have:X.N.contains ("" : Str)=true:=by simpa using z
  rw [this] at h7;cases h7
 ·rw [z] at h8;simp at h8
theorem gN (W:Good X G k) (hnd:N.Nodup) (hk:scope.kind=.function) (hsc:X.env.scope=sc) (hN:X.N=N) (h:zNO sc N x scope=true) (hi:PId X G (.Name x px) iter it)
  (hb:∀ (C:Addr) (s₂:Shared) (H₂:Hp) (fp:List Addr) (G':Gx),Good (cxC X x scope C s₂ H₂ fp) G' k->PTs (cxC X x scope C s₂ H₂ fp) G' ifs t/\PEd (cxC X x scope C s₂ H₂ fp) G' elt f)
  (hs:∀ x,foldedSetIterable iter X.env x=pure x:=by intro _;rfl):PEf X G (.ListComp elt [⟨.Name x px,iter,ifs,0⟩] scope pos) (kK it t f):=by
 obtain ⟨b,h0,hx⟩:=zIO hk hsc hN h
 exact zKW ⟨W.calm,W.tb⟩ W.room b (hN ▸ hnd) h0 hx hi hb hs
theorem zDc (W:Good X G k) (hnd:N.Nodup) (hk:scope.kind=.function) (hsc:X.env.scope=sc) (hN:X.N=N) (h:zNO sc N x scope=true) (hi:PId X G (.Name x px) iter it)
  (hb:∀ (C:Addr) (s₂:Shared) (H₂:Hp) (fp:List Addr) (G':Gx),Good (cxC X x scope C s₂ H₂ fp) G' k->PTs (cxC X x scope C s₂ H₂ fp) G' ifs t/\PEd (cxC X x scope C s₂ H₂ fp) G' elt f)
  (hs:∀ x,foldedSetIterable iter X.env x=pure x:=by intro _;rfl):PCf X G (.ListComp elt [⟨.Name x px,iter,ifs,0⟩] scope pos) (kK it t f):=by
 obtain ⟨b,h0,hx⟩:=zIO hk hsc hN h
 exact zJL ⟨W.calm,W.tb⟩ W.room b (hN ▸ hnd) h0 hx hi hb hs
end
end L3
namespace L3
open PySem PySem.Spec PyProof.Rows L2
unseal PEd PEf PTd PWd PAd PSd dC POd PGd fO PId PSx iY PTs PCd PCf
section
variable {X:Cx} {G:Gx} {a b:Expr} {pos:Pos} {f:Fv} {g:Ev}
theorem IsDs.rep {K:PySem.W.Frag} {H:Hp} {xs:List V} {ds:List D} (h:IsDs K H xs ds):∀ n:Nat,IsDs K H (List.replicate n xs).flatten (List.replicate n ds).flatten
 | 0=>.nil
 | n+1=>by
  rw [List.replicate_succ,List.replicate_succ,List.flatten_cons,List.flatten_cons]
  exact h.append (IsDs.rep h n)
theorem zDe (ha:PEf X G a f) (hb:PEd X G b g):PEf X G (.BinOp a .Mult b pos) (zKx f g):=PE.wk (zFm zNn ha hb) fun σ H Q q=>by
 obtain ⟨ρ,Hi,R,ou⟩:=q
 refine ⟨ρ,Hi,R,(Out.bind ou).imp fun ds Hi1 H1 e1 o1 l nl=>?_⟩
 refine ⟨ρ,Hi1,R.grow e1,(Out.bind o1).imp fun d Hi2 H2 e2 o2 v rv=>?_⟩
 cases d<;>first | exact o2.elim | skip
 rename_i k
 obtain ⟨n1,n2,xs,n3,n4⟩:=nl
 have o2':Out G Hi2 H2 (if 0<=k/\k < 2^62/\ds.length * k.toNat<=16777216 then Res.ok (List.replicate k.toNat ds).flatten else .no) _:=o2
 by_cases hz:0<=k/\k < 2^62/\ds.length * k.toNat<=16777216
 ·rw [if_pos hz] at o2'
  refine ⟨l,k,xs,rfl,rv.intI,e2.h.at n3,by omega,by omega,by rw [n4.length];exact hz.2.2,fun p hp=>?_⟩
  exact o2' _ _ (Ext.newF e2.s hp) p ⟨(e1.h.trans e2.h).none hp,e2.s.none hp,_,aR,(n4.mono e2.i).rep _⟩
 ·rw [if_neg hz] at o2';exact o2'.elim
end
section
variable {es r:List Expr} {a b f:Expr} {k:Nat} {p:Pos} {x:Str} {c:Const} {env:Env}
theorem dY:starEach (.Tuple es k p::r) env=(false,eval (.Tuple es k p) env)::starEach r env:=rfl
theorem zHx:starEach (.List es p::r) env=(false,eval (.List es p) env)::starEach r env:=rfl
theorem bI {o:Operator}:starEach (.BinOp a o b p::r) env=(false,eval (.BinOp a o b p) env)::starEach r env:=rfl
theorem aK:starEach (.Subscript a b p::r) env=(false,eval (.Subscript a b p) env)::starEach r env:=rfl
theorem aJ:starEach (.Name x p::r) env=(false,eval (.Name x p) env)::starEach r env:=rfl
theorem bW:starEach (.Constant c k p::r) env=(false,eval (.Constant c k p) env)::starEach r env:=rfl
theorem aO {ks:List Keyword}:starEach (.Call f es ks p::r) env=(false,eval (.Call f es ks p) env)::starEach r env:=rfl
end
end L3
namespace L3
open PySem PySem.Spec PyProof.Rows L2
unseal PEd PEf PTd PWd PAd PSd dC POd PGd fO PId PSx iY PTs PCd PCf
section
variable {X:Cx} {G:Gx} {e st:Expr} {te tk:TE} {lo hi:Option Expr} {tl th:TO} {pos p2:Pos} {f g:Ev} {l h:Ov}
end
end L3
set_option maxRecDepth 100000
namespace L3
open PySem PySem.Spec PyProof.Rows L2
theorem eX:Slot "reversed" "__next__" "reversed.__next__" :=
 .of (owner := "reversed") (n := "__next__") (by rw [typeLookup_type,builtinLookup_eq_fast];kernel_rfl) (by decide +kernel) (by decide +kernel) (by decide +kernel) (by first | exact .inl (by decide +kernel) | exact .inr (by decide +kernel)) (by rw [isSubtype_type];kernel_rfl)
theorem nU:Slot "reversed" "__iter__" "reversed.__iter__" :=
 .of (owner := "reversed") (n := "__iter__") (by rw [typeLookup_type,builtinLookup_eq_fast];kernel_rfl) (by decide +kernel) (by decide +kernel) (by decide +kernel) (by first | exact .inl (by decide +kernel) | exact .inr (by decide +kernel)) (by rw [isSubtype_type];kernel_rfl)
theorem yX:Slot "reversed" "__init__" "object.__init__" :=
 .of (owner := "object") (n := "__init__") (by rw [typeLookup_type,builtinLookup_eq_fast];kernel_rfl) (by decide +kernel) (by decide +kernel) (by decide +kernel) (by first | exact .inl (by decide +kernel) | exact .inr (by decide +kernel)) (by rw [isSubtype_type];kernel_rfl)
theorem lX:entryFor table "reversed.__next__" = some Builtin.«reversed.__next__» := entryFor_of_tree (by kernel_rfl)
theorem uQ:entryFor table "reversed.__iter__" = some Builtin.«dict_keyiterator.__iter__» :=
 entryFor_alias (id' := "dict_keyiterator.__iter__") (by kernel_rfl) (by first | rfl | decide +kernel | (unfold String.splitOn;simp +decide [String.splitOnAux])) (by decide +kernel) (by kernel_rfl)
theorem zAv:Manifest.owners.lookup (String.ofList ['d', 'e', 's', 'r', 'e', 'v', 'e', 'r'].reverse)=some Manifest.sig_reversed:=by kernel_rfl
theorem oH (a:Value):argsOk "reversed.__next__" ⟨[a],[]⟩:=by
 unfold argsOk;rw [signature?_of (id := "reversed.__next__") (n:=['_', '_', 't', 'x', 'e', 'n', '_', '_']) (o:=['d', 'e', 's', 'r', 'e', 'v', 'e', 'r']) (by kernel_rfl) zAv];kernel_rfl
theorem xL (a:Value):argsOk "reversed.__iter__" ⟨[a],[]⟩:=by
 unfold argsOk;rw [signature?_of (id := "reversed.__iter__") (n:=['_', '_', 'r', 'e', 't', 'i', '_', '_']) (o:=['d', 'e', 's', 'r', 'e', 'v', 'e', 'r']) (by kernel_rfl) zAv];kernel_rfl
theorem zDF:TypeCalled "reversed" "reversed.__new__" "object.__init__" :=
 ⟨by decide +kernel,F.create_reversed,⟨_,_,F.mro_reversed⟩,F.made_reversed,F.plain_reversed_new,F.sub_reversed_self,yX⟩
theorem qA:typeLookup (.type "tuple") "__reversed__" = pure none:=by rw [typeLookup_type,builtinLookup_eq_fast];kernel_rfl
theorem wQ:isSubtype (.type "tuple") (.type "dict")=pure false:=by rw [isSubtype_type];kernel_rfl
def tU (h:Heap) (a t:Addr) (i:Int):Prop:=∃ o,h.get? a=some o/\o.cls=.type "reversed" /\ o.data=.fields #[.ref t,rawInt i]
theorem tU.typeIs {s:Shared} {a t:Addr} {i:Int} (x:tU s.heap a t i):s.TypeIs (.ref a) "reversed" := let ⟨o,ho,hc,_⟩:=x;⟨o,ho,hc⟩
section
variable {prog:Program} {w:World} {A:Around} {E:Value->Shared->Prop} {s:Shared}
theorem wV (t:Addr) (items:Array Value) (hfit:(items.size:Int) < 2^63):Meets (Builtin.«reversed.__new__» ⟨[.type "reversed", .ref t],[]⟩)
  (fun _ R s=>IsTup s.heap t items/\R (.ok (.ret (.ref s.heap.objs.size))) { s with heap:=s.heap.push { cls:=.type "reversed", data:=.fields #[.ref t,rawInt ((items.size:Int) - 1)] },toks:=s.toks+1+1 }):=
 .of_wp fun prog w A R s h=>by
 obtain ⟨ht,h⟩:=h
 unfold Builtin.«reversed.__new__»
 refine wpAny_bind (wpAny_of_eq (newClass_reversed _) ?_)
 try dsimp only
 refine wpAny_bind (wpAny_of_eq (a:=()) (by first | rfl | kernel_rfl) ?_)
 refine wpAny_bind (wpAny_of_eq (a:=()) (by first | rfl | kernel_rfl) ?_)
 try dsimp only
 refine wpAny_bind (wpAny_specialOf ht.typeIs qA ?_)
 try dsimp only
 refine wpAny_bind ?_
 show wpAny _ _ (isInstance (.ref t) (.type "dict") >>= _) _ _ s
 refine wpAny_bind (wpAny_isInstance ht.typeIs wQ ?_)
 show wpAny _ _ (specialOf (.ref t) (Str.ofString "__getitem__") >>= _) _ _ s
 refine wpAny_bind (wpAny_specialOf ht.typeIs PyProof.Rows.slot_tuple_getitem.lookup ?_)
 refine wpAny_pure ?_
 show wpAny _ _ (call (.builtin "len") [.ref t] >>= _) _ _ s
 refine wpAny_bind (PyProof.Rows.len_tuple ht hfit ?_)
 refine wpAny_bind (wpAny_of_eq (a:=some (items.size:Int)) rfl ?_)
 show wpAny _ _ (newObj (.type "reversed") (.fields #[.ref t,rawInt ((items.size:Int) - 1)]) >>= _) _ _ _
 exact wpAny_bind (wpAny_newObj_type (wpAny_pure ⟨_,rfl,h⟩))
theorem zID {t:Addr} {items:Array Value} {Q:Value->Shared->Prop} (ht:IsTup s.heap t items) (hfit:(items.size:Int) < 2^63)
  (h:Q (.ref s.heap.objs.size) { s with heap:=s.heap.push { cls:=.type "reversed", data:=.fields #[.ref t,rawInt ((items.size:Int) - 1)] },toks:=s.toks+1+1 }):
  wpAny (model prog w) A (call (.type "reversed") [.ref t]) Q E s:=
 callType_new zDF (by decide) (F.typeCall_reversed_1 _) (F.newCall_reversed_1 _) (fun obj=>F.args_object_init_2 obj _) F.entry_reversed_new (wV t items hfit) ⟨ht,⟨_,Heap.get?_push_size _ rfl,rfl⟩,h⟩
theorem zCI {a t:Addr} {i:Int} {Q:Value->Shared->Prop} (x:tU s.heap a t i) (h:Q (.ref a) s):wpAny (model prog w) A (pyIter (.ref a)) Q E s:=by
 refine wpAny_pyIter_slot x.typeIs nU (wpAny_call_entry nU x.typeIs uQ ?_ (xL _))
 show wpAny _ _ (ret (.ref a)) _ _ s
 exact wpAny_pure ⟨_,rfl, "reversed", _,x.typeIs,eX.lookup,h⟩
theorem zHP {a t:Addr} {i:Nat} {items:Array Value} {x:Value} {Q:Option Value->Shared->Prop} (hit:tU s.heap a t (i:Int)) (ht:IsTup s.heap t items) (hb:(i:Int) < 2^63) (hx:items[i]?=some x)
  (hQ:∀ h' tk,tU h' a t ((i:Int) - 1)->Heap.SameBut a s.heap h'->Q (some x) { s with heap:=h',toks:=tk }):wpAny (model prog w) A (pyNext (.ref a)) Q E s:=by
 obtain ⟨o,ho,hc,hd⟩:=id hit
 unfold pyNext
 refine wpAny_bind (wpAny_attempt (wpAny_callSpecial?_slot (name:=Str.ofString "__next__") hit.typeIs eX (wpAny_call_entry eX hit.typeIs lX ?_ (oH _))))
 unfold Builtin.«reversed.__next__»
 refine wpAny_bind (wpAny_of_eq (a:=(Value.ref a,[])) rfl ?_)
 try dsimp only
 refine wpAny_bind (wpAny_field ho hd (x:=.ref t) rfl ?_)
 refine wpAny_bind (wpAny_field ho hd (x:=rawInt (i:Int)) rfl ?_)
 show wpAny _ _ (if (i:Int) < 0 then _ else _) _ _ s
 rw [if_neg (by omega)]
 show wpAny _ _ (specialOf (.ref t) (Str.ofString "__getitem__") >>= _) _ _ s
 refine wpAny_bind (wpAny_specialOf ht.typeIs PyProof.Rows.slot_tuple_getitem.lookup ?_)
 rw [if_neg (by simp)]
 refine wpAny_bind (wpAny_mkInt ?_)
 refine wpAny_bind (wpAny_attempt (PyProof.Rows.getItem_tuple (items:=items) (j:=i) (x:=x) ht (by omega) hb ?_ hx ?_))
 ·have:=(Array.getElem?_eq_some_iff.mp hx).1
  unfold seqIndex?
  simp
  omega
 try dsimp only
 refine wpAny_bind (wpAny_field ho hd (x:=rawInt (i:Int)) rfl ?_)
 show wpAny _ _ (setField (.ref a) 1 (rawInt ((i:Int) - 1)) >>= _) _ _ _
 refine wpAny_bind (wpAny_setField ho hd (by simp) ?_)
 refine wpAny_pure ⟨x,rfl,wpAny_pure (hQ _ _ ?_ (Heap.SameBut.update ..))⟩
 exact ⟨_,Heap.get?_update_self _ ho (Obj.isFreed_of_fields (Obj.data_mapFields hd _)),(Obj.cls_mapFields ..).trans hc,by
  rw [Obj.data_mapFields hd];simp⟩
theorem zBi {a t:Addr} {j:Int} {Q:Option Value->Shared->Prop} (hh:A.handled=none) (hit:tU s.heap a t j) (hj:j < 0)
  (hQ:∀ h',Heap.ExtBut a s.heap h'->Q none { s with heap:=h' }):wpAny (model prog w) A (pyNext (.ref a)) Q E s:=by
 obtain ⟨o,ho,hc,hd⟩:=id hit
 unfold pyNext
 refine wpAny_bind (wpAny_attempt (wpAny_callSpecial?_slot (name:=Str.ofString "__next__") hit.typeIs eX (wpAny_call_entry eX hit.typeIs lX ?_ (oH _))))
 unfold Builtin.«reversed.__next__»
 refine wpAny_bind (wpAny_of_eq (a:=(Value.ref a,[])) rfl ?_)
 try dsimp only
 refine wpAny_bind (wpAny_field ho hd (x:=.ref t) rfl ?_)
 refine wpAny_bind (wpAny_field ho hd (x:=rawInt j) rfl ?_)
 show wpAny _ _ (if j < 0 then _ else _) _ _ s
 rw [if_pos hj]
 refine wpAny_bind (wpAny_rule ?_)
 refine wpAny_bind ?_
 show wpAny _ _ (setField (.ref a) 1 (rawInt (-1)) >>= _) _ _ _
 refine wpAny_bind (wpAny_setField ho hd (by simp) ?_)
 have ho2:=Heap.get?_update_self (Obj.mapFields fun x=>x.setIfInBounds 1 (rawInt (-1))) ho (Obj.isFreed_of_fields (Obj.data_mapFields hd _))
 have hd2:=Obj.data_mapFields hd (fun x=>x.setIfInBounds 1 (rawInt (-1)))
 refine wpAny_setField ho2 hd2 (by simp) ?_
 refine wpAny_bind ?_
 show wpAny _ _ (newExc (.type "StopIteration") [] >>= _) _ _ _
 refine wpAny_bind ?_
 simp only [newExc,newTuple]
 refine wpAny_bind (wpAny_newObj_type ?_ (by size_fits))
 refine wpAny_bind (m:=firstArgMember _ _) (wpAny_of_eq (a:=Value.none) (by first | rfl | (simp only [firstArgMember];rfl)) ?_)
 refine wpAny_newObj_type ?_ (by size_fits)
 simp only [raiseNew]
 refine wpAny_bind (wpAny_handled ?_)
 first | rw [show A.in1.handled=none from hh] | rw [hh]
 refine wpAny_bind (wpAny_pure (wpAny_throw ?_))
 refine wpAny_bind (wpAny_isInstance (T := "StopIteration") (b:=true) ⟨_,Heap.get?_push_size _ rfl,rfl⟩ isSubtype_stop ?_)
 refine wpAny_pure (hQ _ fun b ob hb e=>Heap.get?_push_of_some _ (Heap.get?_push_of_some _ ?_))
 exact (Heap.SameBut.update ..).extBut b ob hb ((Heap.SameBut.update ..).extBut b ob hb e)
end
def Itv (K:PySem.W.Frag) (a:Addr) (n:Nat):It:=
 ⟨fun i H=>∃ xs x,SqT K H a xs/\xs.length=n/\xs.reverse[i]?=some x,fun i H x H'=>H'=H/\∀ xs,SqT K H a xs->xs.reverse[i]?=some x,fun i H=>∃ xs,SqT K H a xs/\n<=i⟩
theorem zHK {P:Program} {w:World} {K:PySem.W.Frag} {tg:Expr} (a it:Addr) (n:Nat) (hn:n<=sizeLine):Turn P w K tg (Itv K a n) [it] it (fun i h=>tU h it a ((n:Int) - 1 - (i:Int))) where
 mem:=by simp
 obj:=fun i h st b hb=>by
  have e:b=it:=by simpa using hb
  subst e
  obtain ⟨o,e,c,d⟩:=st
  exact ⟨o,e,fun v z=>by rw [d] at z;cases z⟩
 keep:=fun i h h' st k=>by
  obtain ⟨o,e,c,d⟩:=st
  exact ⟨o,k it (by simp) o e,c,d⟩
 item:=by
  intro X hP hw hK hc i pins s σ H E I hf st hg
  subst hP hw hK
  obtain ⟨xs,x,hq,hn',hx⟩:=hg
  obtain ⟨its,rv,p,hz⟩:=I.tuple hq
  have hi:i < xs.length:=by
   have:=(List.getElem?_eq_some_iff.mp hx).1
   rwa [List.length_reverse] at this
  have hx':xs[n - 1 - i]?=some x:=by
   rw [List.getElem?_reverse hi,hn'] at hx
   exact hx
  obtain ⟨u,hu,ru⟩:=rv.get hx'
  obtain ⟨f0,f1,f2,f3,f4,f5⟩:=hf it (by simp)
  have st0:tU s.heap it a ((n - 1 - i:Nat):Int):=by rw [show ((n - 1 - i:Nat):Int)=(n:Int) - 1 - (i:Int) by omega];exact st
  have hb:((n - 1 - i:Nat):Int) < 2^63:=by
   have:sizeLine < 2^63:=by decide
   omega
  refine zHP (items:=its.toArray) st0 p hb (x:=u) (by simpa using hu) fun h' tk st' sb=>?_
  have I1:Inv X pins σ H { s with heap:=h',toks:=tk }:=I.turned (t':=tk) (fun b o hb e=>(sb.2 b hb).trans e) f0 f1 f3 f4 f5
  obtain ⟨o,e,c,d⟩:=id st'
  have st2:tU h' it a ((n:Int) - 1 - ((i+1:Nat):Int)):=by rw [show (n:Int) - 1 - ((i+1:Nat):Int)=((n - 1 - i:Nat):Int) - 1 by omega];exact st'
  exact ⟨u,rfl,zGX (s:={ s with heap:=h',toks:=tk }) e c d (by decide) ⟨x,H,I1,ru,⟨rfl,fun ys hy=>by rw [I.tuple_inj hy hq];exact hx⟩,st2,fun b hb=>(hf b hb).1⟩⟩
 done:=by
  intro X hP hw hK hc i pins s σ H E I hf st hg
  subst hP hw hK
  obtain ⟨xs,hq,hx⟩:=hg
  obtain ⟨f0,f1,f2,f3,f4,f5⟩:=hf it (by simp)
  exact zBi (I.ok.hd hc) st (by omega) fun h' eb=>⟨rfl,I.turned (t':=s.toks) (fun b o hb e=>eb b o hb e) f0 f1 f3 f4 f5⟩
 self:=fun _ _ _ _ _ st h=>zCI st h
theorem zCD:bootBuiltins "reversed" = some (.type "reversed"):=by first | rfl | decide +kernel
section
unseal PEd PEf PTd PWd PAd PSd dC POd PGd fO PId PSx iY PTs PCd PCf
variable {X:Cx} {G:Gx} {fs:Fv} {f:Ev}
def iRv (K:PySem.W.Frag) (ta:TA):TI:=fun σ H R=>ta σ H fun vs H1=>∃ a xs,vs=[.ref a]/\SqT K H1 a xs/\R (Itv K a xs.length) H1
theorem zLE {tg a:Expr} {ta:TA} {p pos:Pos} (hg:Gl X "reversed") (hm:X.mg "reversed" = none) (ha:PA X [a] ta) (hs:starEach [a] X.env=[(false,eval a X.env)]:=by rfl):PI X tg (.Call (.Name "reversed" p) [a] [] pos) (iRv X.K ta):=by
 intro pins s σ H R I h
 refine Call_ (lV I hg hm zCD (PyProof.Rows.callWith_type1 (thn (ha pos pins s σ H _ I h) fun us s1 ⟨vs,H1,I1,r1,q1⟩=>?_) hs rfl))
 obtain ⟨t,xs,rfl,hq,q⟩:=q1
 cases r1 with
 | cons r rr=>
  cases rr
  cases r
  obtain ⟨its,rv,pt,hz⟩:=I1.tuple hq
  have hl:=rv.length
  have big:sizeLine < 2^63:=by decide
  refine zID (items:=its.toArray) pt (by rw [List.size_toArray];omega) ?_
  have hR:tU (s1.heap.push { cls:=.type "reversed", data:=.fields #[.ref t,rawInt ((its.toArray.size:Int) - 1)] }) s1.heap.objs.size t ((xs.length:Int) - 1 - ((0:Nat):Int)):=
   ⟨_,Heap.get?_push_size _ rfl,rfl,by rw [hl,List.size_toArray];simp⟩
  refine zCI (s:={ s1 with heap:=_,toks:=_ }) hR ?_
  refine ⟨s1.heap.objs.size,[s1.heap.objs.size],_,_,H1,rfl,I1.kept (t':=s1.toks+1+1) fun b o e=>Heap.get?_push_of_some _ e,zHK t _ xs.length hz,hR,fun b hb=>?_,q⟩
  have e:b=s1.heap.objs.size:=by simpa using hb
  subst e
  exact I1.fpOk (Nat.le_refl _) (I1.hok.fresh (Nat.le_refl _))
theorem zGA {K:PySem.W.Frag} {Hi:Hp} {a:Addr} {xs:List V} {ds:List D} (h1:SqT K Hi a xs) (h2:IsDs K Hi xs ds):sQ K Hi (Itv K a xs.length) ds.reverse:=fun Hi1 H1 s1 s2 i=>by
 have h3:=bP (s1.trans s2) h1
 have hl:=h2.length
 refine ⟨fun hl'=>⟨xs,h3,by rw [List.length_reverse] at hl';omega⟩,fun d hd=>?_⟩
 have hi:i < ds.length:=by
  have:=(List.getElem?_eq_some_iff.mp hd).1
  rwa [List.length_reverse] at this
 rw [List.getElem?_reverse hi] at hd
 obtain ⟨v,hv,r⟩:=h2.at hd
 have hv':xs.reverse[i]?=some v:=by rw [List.getElem?_reverse (by omega),hl];exact hv
 refine ⟨⟨xs,v,h3,rfl,hv'⟩,fun x H2 y=>?_⟩
 obtain ⟨e,y⟩:=y
 subst e
 have:=y xs h3
 rw [hv'] at this
 cases this
 exact ⟨Hi1,Ext.refl s2,r.mono s1⟩
theorem zOw {tg a:Expr} {p pos:Pos} (hg:Gl X "reversed") (hm:X.mg "reversed" = none) (ha:PEd X G a f) (hst:starEach [a] X.env=[(false,eval a X.env)]:=by rfl):PId X G tg (.Call (.Name "reversed" p) [a] [] pos) (zNS f):=PI.wk (zLE hg hm (dB ha kY (by rw [hst];rfl)) hst) fun σ H Q q=>by
 obtain ⟨ρ,Hi,R,ou⟩:=q
 refine zBv R ou fun v d Hi1 H1 e1 R1 r1 o1=>?_
 cases d with
 | tup ds=>
  obtain ⟨a,xs,rfl,h1,h2⟩:=r1.tupI
  exact ⟨a,xs,rfl,bP R1.s h1,o1.here R1.s _ (zGA h1 h2)⟩
 | _=>exact o1.elim
end
end L3
namespace L3
open PySem PySem.Spec PyProof.Rows L2
unseal PEd PEf PTd PWd PAd PSd dC POd PGd fO PId PSx iY PTs PCd PCf
section
variable {X:Cx} {G:Gx}
def zPn (K:PySem.W.Frag):List V->Hp->VK->Prop:=fun xs H Q=>∃ (a:Addr) (ns:List Int),xs=[.ref a]/\(SqL K H a (ns.map V.int)∨SqT K H a (ns.map V.int))/\Q (.int ns.sum) H
theorem tH (ns:List Int):∀ j,preSum (fun i=>ns.getD i 0) j=(ns.take j).sum
 | 0=>by rw [List.take_zero];rfl
 | j+1=>by
  rw [preSum,tH ns j,List.take_succ]
  rw [List.getD_eq_getElem?_getD]
  cases ns[j]? with
  | none=>simp
  | some x=>simp
theorem zEw {ns:List Int} {its:List Value} (r:cX (ns.map V.int) its) {i:Nat} {v:Value} (h:its[i]?=some v):∃ t,v=.int (ns.getD i 0) t:=by
 have hl:=r.length
 rw [List.length_map] at hl
 have hi:=(List.getElem?_eq_some_iff.mp h).1
 have hx:(ns.map V.int)[i]?=some (.int (ns.getD i 0)):=by
  rw [List.getElem?_map,List.getD_eq_getElem?_getD,List.getElem?_eq_getElem (by omega)]
  rfl
 obtain ⟨u,hu,ru⟩:=r.get hx
 rw [h] at hu
 cases hu
 exact ru
theorem jV (hc:X.calm=true):vT X (.builtin "sum") (zPn X.K):=by
 intro pins s σ H xs us Q I r h
 obtain ⟨a,ns,rfl,hq,q⟩:=h
 obtain ⟨u,rfl,ru⟩:=r.one
 cases ru
 have hh:=I.ok.hd hc
 rcases hq with hq | hq
 ·obtain ⟨its,rv,p,hz⟩:=I.list hq
  have hlt:a < s.heap.objs.size:=by obtain ⟨_,e,_⟩:=p.isList;exact Heap.lt_size e
  have hl:=rv.length
  rw [List.length_map] at hl
  refine call_sum_walkG (wpAny_pyIter_list p.isList ?_)
  refine ⟨s.heap.objs.size,_,_,_,_,_,fun i=>ns.getD i 0,rfl,Walks.list (A:=X.A.in1) hh s.heap.objs.size a (Nat.ne_of_lt hlt) its.toArray,⟨⟨_,Heap.get?_push_size _ rfl,rfl,rfl⟩,p.isList.push _⟩,fun b hb=>?_,fun i v hv=>zEw rv (by simpa using hv),fun h' tk t' hk=>?_⟩
  ·show b < (s.heap.push _).objs.size
   rw [Heap.size_push]
   rcases List.mem_cons.mp hb with rfl | hb
   ·exact Nat.lt_succ_self _
   ·rcases List.mem_cons.mp hb with rfl | hb
    ·exact Nat.lt_succ_of_lt hlt
    ·cases hb
  ·refine ⟨.int ns.sum,H,I.kept (t':=tk) fun b o e=>hk b o (fun z=>?_) (Heap.get?_push_of_some _ e),⟨t',?_⟩,q⟩
   ·have z':b=s.heap.objs.size:=by simpa using z
    have l:=Heap.lt_size e
    rw [z'] at l
    exact Nat.lt_irrefl _ l
   ·rw [List.size_toArray,<-hl,tH,List.take_length]
 ·obtain ⟨its,rv,p,hz⟩:=I.tuple hq
  have p':s.heap.IsTuple a its.toArray:=p
  have hlt:a < s.heap.objs.size:=by obtain ⟨_,e,_⟩:=p';exact Heap.lt_size e
  have hl:=rv.length
  rw [List.length_map] at hl
  refine call_sum_walkG (wpAny_pyIter_tuple p' ?_)
  refine ⟨s.heap.objs.size,_,_,_,_,_,fun i=>ns.getD i 0,rfl,Walks.tuple (A:=X.A.in1) hh s.heap.objs.size a (Nat.ne_of_lt hlt) its.toArray,⟨⟨_,Heap.get?_push_size _ rfl,rfl,rfl⟩,p'.push _⟩,fun b hb=>?_,fun i v hv=>zEw rv (by simpa using hv),fun h' tk t' hk=>?_⟩
  ·show b < (s.heap.push _).objs.size
   rw [Heap.size_push]
   rcases List.mem_cons.mp hb with rfl | hb
   ·exact Nat.lt_succ_self _
   ·rcases List.mem_cons.mp hb with rfl | hb
    ·exact Nat.lt_succ_of_lt hlt
    ·cases hb
  ·refine ⟨.int ns.sum,H,I.kept (t':=tk) fun b o e=>hk b o (fun z=>?_) (Heap.get?_push_of_some _ e),⟨t',?_⟩,q⟩
   ·have z':b=s.heap.objs.size:=by simpa using z
    have l:=Heap.lt_size e
    rw [z'] at l
    exact Nat.lt_irrefl _ l
   ·rw [List.size_toArray,<-hl,tH,List.take_length]
theorem pZ {K:PySem.W.Frag} {H:Hp}:∀ {xs:List V} {ds:List D} {ns:List Int},IsDs K H xs ds->qM ds=some ns->xs=ns.map V.int
 | _,_,ns,.nil,h=>by cases h;rfl
 | _,_,ns,.cons (d:=d) (ds:=ds) r rs,h=>by
  cases d with
  | int i=>
   rw [qM] at h
   cases z:qM ds with
   | none=>rw [z] at h;cases h
   | some ms=>
    rw [z] at h
    cases h
    rw [r.intI,pZ rs z]
    rfl
  | _=>cases h
theorem sU:zBB X (zPn X.K) zBm:=⟨fun a c z=>(by
  unfold zBm at z
  split at z
  ·split at z<;>cases z
  ·split at z<;>cases z
  ·cases z),fun Hi H vs ds d Q s r z q=>by
  unfold zBm at z
  split at z
  ·split at z
   ·rename_i ns hns
    cases z
    obtain ⟨v,rfl,h⟩:=r.one
    obtain ⟨a,xs,rfl,h1,h2⟩:=h.lstI
    have e:=pZ h2 hns
    subst e
    exact ⟨a,ns,rfl,.inl (cK s h1),q _ Hi H (Ext.refl s) (.int _)⟩
   ·cases z
  ·split at z
   ·rename_i ns hns
    cases z
    obtain ⟨v,rfl,h⟩:=r.one
    obtain ⟨a,xs,rfl,h1,h2⟩:=h.tupI
    have e:=pZ h2 hns
    subst e
    exact ⟨a,ns,rfl,.inr (bP s h1),q _ Hi H (Ext.refl s) (.int _)⟩
   ·cases z
  ·cases z⟩
theorem hZ:bootBuiltins "sum" = some (.builtin "sum"):=by first | rfl | decide +kernel
end
end L3
namespace L3
open PySem PySem.Spec PyProof.Rows L2
unseal PEd PEf PTd PWd PAd PSd dC POd PGd fO PId PSx iY PTs PCd PCf
section
variable {prog:Program} {w:World} {A:Around} {E:Value->Shared->Prop} {s:Shared}
end
section
variable {X:Cx} {G:Gx} {es:List Expr} {pos:Pos}
end
theorem ln0 {α:Type} {us:List α} (h:us.length=0):us=[]:=List.eq_nil_of_length_eq_zero h
theorem ln1 {α:Type} {us:List α} (h:us.length=1):∃ a0:α,us=[a0]:=by
 cases us with
 | nil=>cases h
 | cons a r=>
  cases ln0 (Nat.succ.inj h)
  exact ⟨a,rfl⟩
theorem ln2 {α:Type} {us:List α} (h:us.length=2):∃ a0 a1:α,us=[a0,a1]:=by
 cases us with
 | nil=>cases h
 | cons a r=>
  obtain ⟨a1,rfl⟩:=ln1 (Nat.succ.inj h)
  exact ⟨a,a1,rfl⟩
theorem ln3 {α:Type} {us:List α} (h:us.length=3):∃ a0 a1 a2:α,us=[a0,a1,a2]:=by
 cases us with
 | nil=>cases h
 | cons a r=>
  obtain ⟨a1,a2,rfl⟩:=ln2 (Nat.succ.inj h)
  exact ⟨a,a1,a2,rfl⟩
theorem ln4 {α:Type} {us:List α} (h:us.length=4):∃ a0 a1 a2 a3:α,us=[a0,a1,a2,a3]:=by
 cases us with
 | nil=>cases h
 | cons a r=>
  obtain ⟨a1,a2,a3,rfl⟩:=ln3 (Nat.succ.inj h)
  exact ⟨a,a1,a2,a3,rfl⟩
end L3
namespace L3
open PySem PySem.Spec PyProof.Rows L2
unseal PEd PEf PTd PWd PAd PSd dC POd PGd fO PId PSx iY PTs PCd PCf
section
variable {X:Cx} {G:Gx} {a b c e:Expr} {pos p2:Pos} {f g h:Ev} {fs:Fv} {lo hi:Option Expr} {l u:Ov}
end
end L3
namespace L3
open PySem PySem.Spec PyProof.Rows L2
unseal PEd PEf PTd PWd PAd PSd dC POd PGd fO PId PSx iY PTs PCd PCf
section
variable {X:Cx} {G:Gx} {a b c e:Expr} {pos p2 p:Pos} {f g h:Ev} {fs:Fv} {x:Str}
theorem zLX {bl:List Stmt}:dC X G bl sNo:=fun pins s σ H E I q=>by
 obtain ⟨ρ,Hi,R,ou⟩:=q
 exact ou.elim
def zIs (T:List (Str×Str)):List (Str×KTD.Dat):=T.map fun q=>(q.1,.flat (.str q.2))
structure IsTab (K:PySem.W.Frag) (mg:Str->Option Value) (x:Str) (T:List (Str×Str)) (a:Addr):Prop where
 mg:mg x=some (.ref a)
 tab:∀ h:Heap,K.In h->KTD.TextTab h a (zIs T)
theorem zGF (k:Str):∀ T:List (Str×Str),KTD.datumAt k (zIs T)=(T.lookup k).map fun y=>.flat (.str y)
 | []=>rfl
 | (x,y)::r=>by
  show (if decide (k=x)=true then some (KTD.Dat.flat (.str y)) else KTD.datumAt k (zIs r))=_
  rw [List.lookup_cons]
  by_cases hx:k=x
  ·rw [if_pos (decide_eq_true hx),show (k==x)=true from beq_iff_eq.mpr hx];rfl
  ·rw [if_neg (by simp [hx]),show (k==x)=false from beq_eq_false_iff_ne.mpr hx];exact zGF k r
theorem zFh (k:Str) (T:List (Str×Str)):KTD.inKeys k (zIs T)=(T.lookup k).isSome:=by
 rw [<-KTD.isSome_datumAt,zGF,Option.isSome_map]
theorem zJE {T:List (Str×Str)} {ad:Addr} (t:IsTab X.K X.mg x T ad) (hg:Gl X x) (hd:(x==("__debug__" : Str))=false:=by decide):PE X (.Name x p) (tC (.ref ad)):=zFn hg t.mg rfl hd
theorem zFH {T:List (Str×Str)} {ad:Addr} (t:IsTab X.K X.mg x T ad):OpR X (compareOp .NotIn) (fun v y H Q=>∃ k,v=.str k/\y=.ref ad/\Q (.bl (!(T.lookup k).isSome)) H):=by
 intro pins s σ H v y u w Q I rx ry h
 obtain ⟨k,rfl,rfl,q⟩:=h
 obtain ⟨tk,rfl⟩:=rx
 cases ry
 refine KTD.notin_text ⟨t.tab s.heap I.kIn,fun _ _ e=>e⟩ ?_
 rw [zFh]
 exact ⟨.bl _,H,I.tok _,rfl,q⟩
theorem zBk {h₀:Heap} {k:Str} {P:Value->Prop}:∀ {T:List (Str×Str)},(∀ z t,T.lookup k=some z->P (.str z t))->KTD.EachL h₀ k P (zIs T)
 | [],_=>trivial
 | [(x,y)],hP=>fun hk t=>hP y t (by rw [List.lookup_cons,show (k==x)=true from beq_iff_eq.mpr hk])
 | (x,y)::q::r,hP=>by
  show if decide (k=x)=true then KTD.Opened h₀ P (.flat (.str y)) else KTD.EachL h₀ k P (zIs (q::r))
  by_cases hk:k=x
  ·rw [if_pos (decide_eq_true hk)]
   exact fun t=>hP y t (by rw [List.lookup_cons,show (k==x)=true from beq_iff_eq.mpr hk])
  ·rw [if_neg (by simp [hk])]
   exact zBk fun z t hz=>hP z t (by rw [List.lookup_cons,show (k==x)=false from beq_eq_false_iff_ne.mpr hk];exact hz)
theorem zEW (T:List (Str×Str)):((zIs T).all fun q=>KTD.plain q.2)=true:=by
 unfold zIs
 rw [List.all_map]
 exact List.all_eq_true.mpr fun _ _=>rfl
theorem zLJ {T:List (Str×Str)} {ad:Addr} (t:IsTab X.K X.mg x T ad):IxR X (fun v y H Q=>∃ k z,v=.ref ad/\y=.str k/\T.lookup k=some z/\Q (.str z) H):=by
 intro value slice pins s σ H v y u w Q I rx ry h hs
 obtain ⟨k,z,rfl,rfl,hk,q⟩:=h
 cases rx
 obtain ⟨tk,rfl⟩:=ry
 refine KTD.item_textA ⟨t.tab s.heap I.kIn,fun _ _ e=>e⟩ (zEW T) (by rw [zFh,hk];rfl) ?_ hs
 refine zBk fun z' t' hz=>?_
 rw [hk] at hz
 cases hz
 exact ⟨.str _,H,I.tok _,⟨_,rfl⟩,q⟩
theorem unT {o:D->Res D} {r:R2} {y:V} (hr:∀ (Hi H:Hp) (v:V) (d:D) (Q:VK),IsD X.K Hi v d->Same Hi H->(∃ d',o d=.ok d'/\(∀ w Hi' H',Ext Hi H Hi' H'->IsD X.K Hi' w d'->Q w H'))->r v y H Q)
  (he:∀ d c,o d≠.err c):∀ σ H Q,tD X G (eUn o f) σ H Q->tOp r (tD X G f) (tC y) σ H Q:=fun σ H Q q=>by
 obtain ⟨ρ,Hi,R,ou⟩:=q
 refine zBv R ou fun v d Hi1 H1 e1 R1 r1 o1=>?_
 cases z:o d with
 | no=>rw [z] at o1;exact o1.elim
 | err c=>exact absurd z (he d c)
 | ok d'=>rw [z] at o1;exact hr Hi1 H1 v d Q r1 R1.s ⟨d',z,fun w Hi' H' e1 r1=>o1 Hi' H' e1 w r1⟩
theorem zMG {T:List (Str×Str)} {ad:Addr}:∀ σ H Q,tD X G (eUn (oY T) f) σ H Q->tOp (fun v y H Q=>∃ k,v=.str k/\y=.ref ad/\Q (.bl (!(T.lookup k).isSome)) H) (tD X G f) (tC (.ref ad)) σ H Q:=
 unT (fun Hi H v d Q r s h=>by
  obtain ⟨d',z,q⟩:=h
  unfold oY at z
  split at z
  ·cases z;exact ⟨_,r.strI,rfl,q _ Hi H (Ext.refl s) (.bl _)⟩
  ·cases z) fun d c z=>by unfold oY at z;split at z<;>cases z
theorem zNk {op:CmpOp} {o:D->Res D} {r:R2} {y:V} (hp:PT X (.Compare a [op] [b] pos) (zLC (tOp r (tD X G f) (tC y)))) (hu:∀ σ H Q,tD X G (eUn o f) σ H Q->tOp r (tD X G f) (tC y) σ H Q):PTd X G (.Compare a [op] [b] pos) (dQ (eUn o f)):=
 PT.wk hp fun σ H Q q=>by
  obtain ⟨ρ,Hi,R,ou⟩:=q
  refine hu σ H _ ⟨ρ,Hi,R,ou.bind.imp fun d Hi' H' e o v r=>?_⟩
  cases d with
  | bl c=>rw [r.blI];exact ⟨c,rfl,o.here e.s⟩
  | _=>exact o.elim
theorem zIp {T:List (Str×Str)} {ad:Addr} (t:IsTab X.K X.mg x T ad) (hg:Gl X x) (ha:PEd X G a f) (hm:behindInMarks .NotIn (.Name x p)=false) (hd:(x==("__debug__" : Str))=false:=by decide):PTd X G (.Compare a [.NotIn] [.Name x p] pos) (dQ (eUn (oY T) f)):=
 zNk (zEP (zFH t) ha (zJE t hg hd) hm) zMG
theorem zJs {T:List (Str×Str)} {ad:Addr} (t:IsTab X.K X.mg x T ad) (hg:Gl X x) (hb:PEd X G b g) (hs:zBU b) (hd:(x==("__debug__" : Str))=false:=by decide):PEd X G (.Subscript (.Name x p) b pos) (eUn (sZ T) g):=
 PE.wk (zEd (zLJ t) (zJE t hg hd) hb hs) fun σ H Q q=>by
  obtain ⟨ρ,Hi,R,ou⟩:=q
  refine zBv R ou fun v d Hi1 H1 e1 R1 r1 o1=>?_
  cases d with
  | str k=>
   have o2:Out G Hi1 H1 (zLx (T.lookup k)) _:=o1
   cases z:T.lookup k with
   | none=>rw [z] at o2;exact o2.elim
   | some y=>rw [z] at o2;exact ⟨k,y,rfl,r1.strI,z,o2.here R1.s _ (.str _)⟩
  | _=>exact o1.elim
end
end L3
namespace L3
open PySem PySem.Spec PyProof.Rows L2
unseal PEd PEf PTd PWd PAd PSd dC POd PGd fO PId PSx iY PTs PCd PCf
section
variable {prog:Program} {w:World} {A:Around} {R:Result->Shared->Prop} {I:Addr} {fp wr:List Addr} {n:Nat} {P:Nat->Value->Prop} {St:Nat->Heap->Prop} {kw:List (Str×Value)}
end
section
variable {X:Cx} {G:Gx} {a c:Expr} {pos p kp:Pos} {f g:Ev}
end
end L3
namespace L3
open PySem PySem.Spec PyProof.Rows L2
unseal PEd PEf PTd PWd PAd PSd dC POd PGd fO PId PSx iY PTs PCd PCf
section
variable {X:Cx} {G:Gx} {e:Expr} {pos:Pos} {f:Ev}
end
end L3
namespace L2
open PySem PySem.Spec PyProof.Rows
section
variable {κ:Type} [DecidableEq κ]
end
abbrev KT (H:Hp):List (List Key×V)->List (List Key×Addr×Value)->Prop:=Paired fun p q=>p.1=q.1/\H q.2.1=some (.tup (p.1.map kV))/\cP p.2 q.2.2
section
variable {P:Program} {w:World} {H:Hp} {h:Heap} {a:Addr}
end
section
variable {X:Cx} {pins:List (Addr×Obj)} {σ:St} {H:Hp} {s:Shared} {a:Addr} {y v:V} {u r:Value} {o:Option V} {A:Around} {E:Value->Shared->Prop}
end
section
variable {X:Cx} {pins:List (Addr×Obj)} {σ:St} {H:Hp} {s:Shared} {a:Addr} {kvs:List (Key×V)} {k:Key} {u:Value} {A:Around} {E:Value->Shared->Prop}
end
section
variable {X:Cx} {o i e value:Expr} {pos pos' tpos:Pos} {td ty tv:TE}
end
section
variable {X:Cx} {pos:Pos}
end
end L2
namespace L3
open PySem PySem.Spec PyProof.Rows L2
unseal PEd PEf PTd PWd PAd PSd dC POd PGd fO PId PSx iY PTs PCd PCf
section
variable {X:Cx} {G:Gx} {a b c e:Expr} {pos p2 p:Pos} {f g h:Ev} {fs:Fv} {x:Str}
end
end L3
namespace L3
open PySem PySem.Spec PyProof.Rows L2
def itN (k:Bool):String:=if k then "list_iterator" else "tuple_iterator"
def zCT (k:Bool) (h:Heap) (it l:Addr) (i:Nat):Prop:=if k then h.IsListIter it l i else h.IsTupleIter it l i
def tY (k:Bool) (h:Heap) (l:Addr) (xs:Array Value):Prop:=if k then h.IsList l xs else h.IsTuple l xs
theorem zCT.get {k:Bool} {h:Heap} {it l:Addr} {i:Nat} (x:zCT k h it l i):∃ o,h.get? it=some o/\o.cls=.type (itN k)/\o.data=.fields #[.ref l,.int i 0]:=by
 cases k<;>(obtain ⟨o,a,b,c⟩:=x;exact ⟨o,a,b,c⟩)
theorem zCT.mk {k:Bool} {h:Heap} {it l:Addr} {i:Nat} {o:Obj} (a:h.get? it=some o) (b:o.cls=.type (itN k)) (c:o.data=.fields #[.ref l,.int i 0]):zCT k h it l i:=by
 cases k<;>exact ⟨o,a,b,c⟩
theorem zCT.go {k:Bool} {h h':Heap} {it l:Addr} {i:Nat} (x:zCT k h it l i) (g:∀ o,h.get? it=some o->h'.get? it=some o):zCT k h' it l i:=by
 obtain ⟨o,a,b,c⟩:=x.get
 exact .mk (g o a) b c
theorem tY.go {k:Bool} {h h':Heap} {l:Addr} {xs:Array Value} (x:tY k h l xs) (g:∀ o,h.get? l=some o->h'.get? l=some o):tY k h' l xs:=by
 cases k<;>(obtain ⟨o,a,b⟩:=x;exact ⟨o,g o a,b⟩)
section
variable {prog:Program} {w:World} {A:Around} {E:Value->Shared->Prop} {s:Shared}
theorem zEN {k:Bool} {l:Addr} {xs:Array Value} {Q:Value->Shared->Prop} (hl:tY k s.heap l xs) (hQ:Q (.ref s.heap.objs.size) { s with heap:=s.heap.push { cls:=.type (itN k),data:=.fields #[.ref l,.int 0 0] } }):
  wpAny (model prog w) A (pyIter (.ref l)) Q E s:=by
 cases k
 ·exact wpAny_pyIter_tuple hl hQ
 ·exact wpAny_pyIter_list hl hQ
theorem nxT {it t:Addr} {i:Nat} {items:Array Value} {Q:Value->Shared->Prop} (hh:A.handled=none∨(items[i]?).isSome=true) (x:s.heap.IsTupleIter it t i) (y:s.heap.IsTuple t items)
  (go:∀ v,items[i]?=some v->∀ h2,h2.IsTupleIter it t (i+1)->Heap.SameBut it s.heap h2->Q v { s with heap:=h2 })
  (stop:items[i]?=none->∀ h2 e,Heap.ExtBut it s.heap h2->(∃ ob,h2.get? e=some ob/\ob.cls=.type "StopIteration")->E (.ref e) { s with heap:=h2 }):wpAny (model prog w) A (Builtin.SmallTypes.nextOf (.ref it)) Q E s:=by
 obtain ⟨oi,ei,ci,di⟩:=id x
 obtain ⟨ot,et,_,nt,dt⟩:=y
 have nn:¬ ((Value.ref t==Value.none)=true):=Bool.false_ne_true
 unfold Builtin.SmallTypes.nextOf
 refine wpAny_bind (wpAny_callSpecial?_slot (name:=Str.ofString "__next__") x.typeIs F.slot_tuple_iterator_next (wpAny_call_entry F.slot_tuple_iterator_next x.typeIs F.entry_tuple_iterator_next (show wpAny _ _ (field _ 0 >>= _) _ _ s from wpAny_bind (wpAny_field ei di (x:=.ref t) rfl ?_)) (F.args_tuple_iterator_next_1 _)))
 show wpAny _ _ (ite ((Value.ref t==Value.none)=true) _ _) _ _ s
 rw [if_neg nn]
 refine show wpAny _ _ (field _ 1 >>= _) _ _ s from wpAny_bind (wpAny_field ei di (x:=.int i 0) rfl (show wpAny _ _ (seqItems? _ >>= _) _ _ s from wpAny_bind (wpAny_seqItems et dt ?_)))
 have fr:∀ g:Array Value->Array Value,Heap.get? (s.heap.update it (Obj.mapFields g)) it=some (Obj.mapFields g oi):=fun g=>Heap.get?_update_self _ ei (Obj.isFreed_of_fields (Obj.data_mapFields di g))
 cases q:items[i]? with
 | some v=>
  simp only [Int.toNat_natCast,q]
  refine wpAny_bind (wpAny_setField ei di (by simp) (wpAny_pure ⟨v,rfl,wpAny_pure (go v q _ ⟨_,fr _,(Obj.cls_mapFields ..).trans ci,?_⟩ (Heap.SameBut.update ..))⟩))
  rw [Obj.data_mapFields di]
  simp [rawInt]
 | none=>
  have hh:A.handled=none:=hh.elim id fun z=>by rw [q] at z;cases z
  simp only [Int.toNat_natCast,q]
  refine wpAny_bind (wpAny_rule (wpAny_bind (wpAny_setField ei di (by simp) (show wpAny _ _ (newExc _ [] >>= _) _ _ _ from wpAny_bind ?_))))
  simp only [newExc,newTuple]
  refine wpAny_bind (wpAny_newObj_type (wpAny_bind (m:=firstArgMember _ _) (wpAny_of_eq (a:=Value.none) (by first | rfl | (simp only [firstArgMember];rfl)) (wpAny_newObj_type ?_ (by size_fits)))) (by size_fits))
  simp only [raiseNew]
  refine wpAny_bind (wpAny_handled ?_)
  rw [show A.in1.handled=none from hh]
  exact wpAny_bind (wpAny_pure (wpAny_throw (stop q _ _ (((Heap.SameBut.update ..).extBut.push _).push _) ⟨_,Heap.get?_push_size _ rfl,rfl⟩)))
theorem zFg {k:Bool} {it t:Addr} {i:Nat} {items:Array Value} {x:Value} {Q:Value->Shared->Prop} (hit:zCT k s.heap it t i) (ht:tY k s.heap t items) (hx:items[i]?=some x)
  (hQ:∀ h',zCT k h' it t (i+1)->Heap.SameBut it s.heap h'->Q x { s with heap:=h' }):wpAny (model prog w) A (Builtin.SmallTypes.nextOf (.ref it)) Q E s:=by
 cases k
 ·exact nxT (.inr (by rw [hx];rfl)) hit ht (fun v q h2 g1 g2=>by rw [hx] at q;cases q;exact hQ h2 g1 g2) fun q=>by rw [hx] at q;cases q
 ·exact wpAny_nextOf_list_item hit ht hx hQ
theorem zJv {k:Bool} {it t:Addr} {i:Nat} {items:Array Value} {Q:Value->Shared->Prop} (hh:A.handled=none) (hit:zCT k s.heap it t i) (ht:tY k s.heap t items) (hx:items[i]?=none)
  (hE:∀ h' e,Heap.ExtBut it s.heap h'->(∃ o,h'.get? e=some o/\o.cls=.type "StopIteration")->E (.ref e) { s with heap:=h' }):wpAny (model prog w) A (Builtin.SmallTypes.nextOf (.ref it)) Q E s:=by
 cases k
 ·exact nxT (.inl hh) hit ht (fun v q=>by rw [hx] at q;cases q) fun _=>hE
 ·exact wpAny_nextOf_list_end hh hit ht hx hE
def wE (f0:Value) (k1 k2:Bool) (l1 l2 n:Addr) (j1 j2:Nat) (h:Heap):Prop:=
 IsZip h (n+4) (n+2) (n+3) f0/\IsPair h (n+2) (.ref n) (.ref (n+1))/\(∃ a b,IsPair h (n+3) a b)/\zCT k1 h n l1 j1/\zCT k2 h (n+1) l2 j2
def mQ (n:Addr) (h h2:Heap):Prop:=∀ c o,c≠n+4->c≠n+3->c≠n->c≠n+1->h.get? c=some o->h2.get? c=some o
theorem mQ.then {n:Addr} {h h1 h2:Heap} (a:mQ n h h1) (b:mQ n h1 h2):mQ n h h2:=fun c o c1 c2 c3 c4 e=>b c o c1 c2 c3 c4 (a c o c1 c2 c3 c4 e)
theorem mQ.eb {n a:Addr} {h h2:Heap} (k:Heap.ExtBut a h h2) (m:a=n+4∨a=n+3∨a=n∨a=n+1):mQ n h h2:=fun c o c1 c2 c3 c4 e=>k c o (fun z=>by subst z;rcases m with m | m | m | m<;>contradiction) e
theorem mQ.sq {k:Bool} {n l:Addr} {h h2:Heap} {xs:Array Value} (a:mQ n h h2) (hl:l < n) (x:tY k h l xs):tY k h2 l xs:=
 x.go fun o e=>a l o (Nat.ne_of_lt (Nat.lt_add_right 4 hl)) (Nat.ne_of_lt (Nat.lt_add_right 3 hl)) (Nat.ne_of_lt hl) (Nat.ne_of_lt (Nat.lt_succ_of_lt hl)) e
theorem zHu (n:Addr):n+3≠n+4/\n+2≠n+4/\n≠n+4/\n+1≠n+4/\n+2≠n+3/\n≠n+3/\n+1≠n+3/\n+2≠n/\n+1≠n/\n+2≠n+1:=by
 refine ⟨?_,?_,?_,?_,?_,?_,?_,?_,?_,?_⟩<;>(intro z;have z':(_:Nat)=_:=z;omega)
theorem wE.fld {f0:Value} {k1 k2:Bool} {l1 l2 n:Addr} {j1 j2:Nat} {h h2:Heap} (g:wE f0 k1 k2 l1 l2 n j1 j2 h) {f1:Value} (z:IsZip h2 (n+4) (n+2) (n+3) f1) (s:Heap.ExtBut (n+4) h h2):wE f1 k1 k2 l1 l2 n j1 j2 h2:=by
 obtain ⟨_,g2,⟨a,b,g3⟩,g4,g5⟩:=g
 obtain ⟨e1,e2,e3,e4,_⟩:=zHu n
 exact ⟨z,s _ _ e2 g2,⟨a,b,s _ _ e1 g3⟩,g4.go fun o e=>s _ o e3 e,g5.go fun o e=>s _ o e4 e⟩
theorem wE.it1 {f0:Value} {k1 k2:Bool} {l1 l2 n:Addr} {j1 j2 m:Nat} {h h2:Heap} (g:wE f0 k1 k2 l1 l2 n j1 j2 h) (z:zCT k1 h2 n l1 m) (s:Heap.ExtBut n h h2):wE f0 k1 k2 l1 l2 n m j2 h2:=by
 obtain ⟨g1,g2,⟨a,b,g3⟩,_,g5⟩:=g
 obtain ⟨e1,e2,e3,e4,e5,e6,e7,e8,e9,_⟩:=zHu n
 exact ⟨s _ _ e3.symm g1,s _ _ e8 g2,⟨a,b,s _ _ e6.symm g3⟩,z,g5.go fun o e=>s _ o e9 e⟩
theorem wE.it2 {f0:Value} {k1 k2:Bool} {l1 l2 n:Addr} {j1 j2 m:Nat} {h h2:Heap} (g:wE f0 k1 k2 l1 l2 n j1 j2 h) (z:zCT k2 h2 (n+1) l2 m) (s:Heap.ExtBut (n+1) h h2):wE f0 k1 k2 l1 l2 n j1 m h2:=by
 obtain ⟨g1,g2,⟨a,b,g3⟩,g4,_⟩:=g
 obtain ⟨e1,e2,e3,e4,e5,e6,e7,e8,e9,e10⟩:=zHu n
 exact ⟨s _ _ e4.symm g1,s _ _ e10 g2,⟨a,b,s _ _ e7.symm g3⟩,g4.go fun o e=>s _ o e9.symm e,z⟩
theorem wE.out {f0 a b:Value} {k1 k2:Bool} {l1 l2 n:Addr} {j1 j2:Nat} {h h2:Heap} (g:wE f0 k1 k2 l1 l2 n j1 j2 h) (z:IsPair h2 (n+3) a b) (s:Heap.ExtBut (n+3) h h2):wE f0 k1 k2 l1 l2 n j1 j2 h2:=by
 obtain ⟨g1,g2,_,g4,g5⟩:=g
 obtain ⟨e1,e2,e3,e4,e5,e6,e7,_⟩:=zHu n
 exact ⟨s _ _ e1.symm g1,s _ _ e5 g2,⟨a,b,z⟩,g4.go fun o e=>s _ o e6 e,g5.go fun o e=>s _ o e7 e⟩
theorem zPR {k1 k2:Bool} {n l1 l2:Addr} {j:Nat} {xs ys:Array Value} {Q:PySem.Fin->Shared->Prop} (hh:A.handled=none) (b1:l1 < n) (b2:l2 < n) (g:wE .none k1 k2 l1 l2 n j j s.heap) (d1:tY k1 s.heap l1 xs) (d2:tY k2 s.heap l2 ys)
  (go:∀ x y,xs[j]?=some x->ys[j]?=some y->∀ h2,wE (rawInt s.heap.objs.size) k1 k2 l1 l2 n (j+1) (j+1) h2->IsPair h2 s.heap.objs.size x y->mQ n s.heap h2->Q (.done (.ret (.ref s.heap.objs.size))) { s with heap:=h2 })
  (stop:xs[j]?=none∨ys[j]?=none->∀ h2 e,mQ n s.heap h2->(∃ o,h2.get? e=some o/\o.cls=.type "StopIteration")->E (.ref e) { s with heap:=h2 }):
  wpAny (model prog w) A (Builtin.«zip.__next__» ⟨[.ref (n+4)],[]⟩) Q E s:=by
 have stopZ:∀ {h1:Heap} {e:Addr} {v:Value} {k:Nat} {R:Unit->Shared->Prop},(xs[j]?=none∨ys[j]?=none)->mQ n s.heap h1->IsZip h1 (n+4) (n+2) (n+3) .ellipsis->(∃ o,h1.get? e=some o/\o.cls=.type "StopIteration")->k < 5->
   (∀ h3,mQ n s.heap h3->(∃ o,h3.get? e=some o/\o.cls=.type "StopIteration")->R () { s with heap:=h3 })->wpAny (model prog w) A (setField (.ref (n+4)) k v) R E { s with heap:=h1 }:=by
  intro h1 e v k R q kz z he hk fin
  obtain ⟨oe,e1,e2⟩:=he
  have nz:e≠n+4:=fun y=>by subst y;rw [z] at e1;cases e1;simp at e2
  exact wpAny_setField_rec z (by simpa using hk) fun h3 _ s3=>fin h3 (kz.then (.eb s3.extBut (.inl rfl))) ⟨oe,s3.extBut _ _ nz e1,e2⟩
 obtain ⟨z0,t0,⟨a,b,p0⟩,_⟩:=id g
 refine show wpAny _ _ (field _ 2 >>= _) _ _ s from wpAny_bind (wpAny_field z0 rfl (x:=.bool false) rfl (show wpAny _ _ (field _ 3 >>= _) _ _ s from wpAny_bind (wpAny_field z0 rfl (x:=.ref (n+2)) rfl (wpAny_bind (wpAny_seqItems t0 rfl (wpAny_bind ?_))))))
 unfold Builtin.SmallTypes.ownedTupleIsFree
 refine wpAny_bind (wpAny_field z0 rfl (x:=.none) rfl (wpAny_pure ?_))
 simp only [if_true]
 refine wpAny_bind (wpAny_rule (wpAny_bind (wpAny_field z0 rfl (x:=.ref (n+3)) rfl (wpAny_bind (wpAny_setField_rec z0 (by simp) fun h1 z1 s1=>wpAny_bind ?_)))))
 have g1:wE .ellipsis k1 k2 l1 l2 n j j h1:=g.fld z1 s1.extBut
 have k1':mQ n s.heap h1:=.eb s1.extBut (.inl rfl)
 simp only [List.zipIdx_cons,List.zipIdx_nil,List.forIn_cons,List.forIn_nil]
 refine wpAny_bind (wpAny_bind (wpAny_onRaise (show wpAny _ _ (Builtin.SmallTypes.nextOf _ >>= _) _ _ _ from wpAny_bind ?_)))
 cases q1:xs[j]? with
 | none=>
  refine zJv (s:={ s with heap:=h1 }) hh g1.2.2.2.1 (k1'.sq b1 d1) q1 fun h2 e x2 he=>stopZ (.inl q1) (k1'.then (.eb x2 (.inr (.inr (.inl rfl))))) (x2 _ _ (zHu n).2.2.1.symm g1.1) he (by decide) fun h3=>stop (.inl q1) h3 e
 | some x=>
  refine zFg (s:={ s with heap:=h1 }) g1.2.2.2.1 (k1'.sq b1 d1) q1 fun h2 i2 s2=>wpAny_pure ?_
  have g2:=g1.it1 i2 s2.extBut
  have k2':=k1'.then (.eb s2.extBut (.inr (.inr (.inl rfl))))
  have p2:IsPair h2 (n+3) a b:=s2.extBut _ _ (zHu n).2.2.2.2.2.1.symm (s1.extBut _ _ (zHu n).1 p0)
  refine wpAny_bind (wpAny_seqItems (s:={ s with heap:=h2 }) p2 rfl (wpAny_bind (wpAny_updateSeq_pair p2 fun h3 p3 s3=>wpAny_bind (wpAny_letGo (wpAny_pure ?_)))))
  have g3:=g2.out p3 s3.extBut
  have k3':=k2'.then (.eb s3.extBut (.inr (.inl rfl)))
  refine wpAny_bind (wpAny_bind (wpAny_onRaise (show wpAny _ _ (Builtin.SmallTypes.nextOf _ >>= _) _ _ _ from wpAny_bind ?_)))
  cases q2:ys[j]? with
  | none=>
   refine zJv (s:={ s with heap:=h3 }) hh g3.2.2.2.2 (k3'.sq b2 d2) q2 fun h4 e x4 he=>stopZ (.inr q2) (k3'.then (.eb x4 (.inr (.inr (.inr rfl))))) (x4 _ _ (zHu n).2.2.2.1.symm g3.1) he (by decide) fun h5=>stop (.inr q2) h5 e
  | some y=>
   refine zFg (s:={ s with heap:=h3 }) g3.2.2.2.2 (k3'.sq b2 d2) q2 fun h4 i4 s4=>wpAny_pure ?_
   have g4:=g3.it2 i4 s4.extBut
   have p4:IsPair h4 (n+3) x b:=s4.extBut _ _ (zHu n).2.2.2.2.2.2.1.symm p3
   refine wpAny_bind (wpAny_seqItems (s:={ s with heap:=h4 }) p4 rfl (wpAny_bind (wpAny_updateSeq_pair p4 fun h5 p5 s5=>wpAny_bind (wpAny_letGo (wpAny_pure (wpAny_pure ?_))))))
   have p5:IsPair h5 (n+3) x y:=p5
   have g5:=g4.out p5 s5.extBut
   have k5':=(k3'.then (.eb s4.extBut (.inr (.inr (.inr rfl))))).then (.eb s5.extBut (.inr (.inl rfl)))
   have sz:h5.objs.size=s.heap.objs.size:=s5.1.trans (s4.1.trans (s3.1.trans (s2.1.trans s1.1)))
   refine wpAny_bind (wpAny_seqItems (s:={ s with heap:=h5 }) p5 rfl (wpAny_bind (wpAny_newTuple (show wpAny _ _ (Builtin.SmallTypes.ownedTupleHandOut _ (.ref h5.objs.size) >>= _) _ _ _ from wpAny_bind ?_))))
   unfold Builtin.SmallTypes.ownedTupleHandOut
   refine wpAny_bind (wpAny_setField_rec (Heap.get?_push_of_some _ g5.1) (by simp) fun h7 z7 s7=>wpAny_setField_rec z7 (by simp) fun h8 z8 s8=>wpAny_pure ?_)
   have nz:h5.objs.size≠n+4:=Nat.ne_of_gt (Heap.lt_size g5.1)
   have x8:Heap.ExtBut (n+4) h5 h8:=fun c o c1 e=>s8.extBut _ _ c1 (s7.extBut _ _ c1 (Heap.get?_push_of_some _ e))
   have g8:wE (rawInt h5.objs.size) k1 k2 l1 l2 n (j+1) (j+1) h8:=g5.fld z8 x8
   have t8:IsPair h8 h5.objs.size x y:=s8.extBut _ _ nz (s7.extBut _ _ nz (Heap.get?_push_size _ rfl))
   rw [sz] at g8 t8
   show Q (.done (.ret (.ref h5.objs.size))) _
   rw [sz]
   exact go x y q1 q2 h8 g8 t8 (k5'.then (.eb x8 (.inl rfl)))
theorem zOZ {k1 k2:Bool} {n l1 l2:Addr} {j:Nat} {xs ys:Array Value} {Q:Option Value->Shared->Prop} (hh:A.handled=none) (b1:l1 < n) (b2:l2 < n) (g:wE .none k1 k2 l1 l2 n j j s.heap) (d1:tY k1 s.heap l1 xs) (d2:tY k2 s.heap l2 ys)
  (go:∀ x y,xs[j]?=some x->ys[j]?=some y->∀ h2,wE (rawInt s.heap.objs.size) k1 k2 l1 l2 n (j+1) (j+1) h2->IsPair h2 s.heap.objs.size x y->mQ n s.heap h2->Q (some (.ref s.heap.objs.size)) { s with heap:=h2 })
  (stop:xs[j]?=none∨ys[j]?=none->∀ h2,mQ n s.heap h2->Q none { s with heap:=h2 }):wpAny (model prog w) A (pyNext (.ref (n+4))) Q E s:=by
 have ty:s.TypeIs (.ref (n+4)) "zip" := ⟨_,g.1,rfl⟩
 unfold pyNext
 refine wpAny_bind (wpAny_attempt (wpAny_callSpecial?_slot (name:=Str.ofString "__next__") ty F.slot_zip_next (wpAny_call_entry F.slot_zip_next ty F.entry_zip_next
  (zPR hh b1 b2 g d1 d2 (fun x y q1 q2 h2 a1 a2 a3=>⟨_,rfl,wpAny_pure (go x y q1 q2 h2 a1 a2 a3)⟩) fun q h2 e k he=>?_) (F.args_zip_next_1 _))))
 obtain ⟨o,eo,co⟩:=he
 exact wpAny_bind (wpAny_isInstance (T := "StopIteration") (b:=true) ⟨o,eo,co⟩ isSubtype_stop (wpAny_pure (stop q h2 k)))
end
abbrev zO (k:Bool) (l:Addr):Obj:={ cls:=.type (itN k),data:=.fields #[.ref l,.int 0 0] }
abbrev zH2 (k1 k2:Bool) (h:Heap) (l1 l2:Addr):Heap:=(h.push (zO k1 l1)).push (zO k2 l2)
abbrev zH3 (k1 k2:Bool) (h:Heap) (l1 l2:Addr):Heap:=(zH2 k1 k2 h l1 l2).push { cls:=.type "tuple", data:=.seq #[.ref h.objs.size,.ref (h.push (zO k1 l1)).objs.size] }
abbrev zH4 (k1 k2:Bool) (h:Heap) (l1 l2:Addr):Heap:=(zH3 k1 k2 h l1 l2).push { cls:=.type "tuple", data:=.seq #[.none,.none] }
abbrev zH5 (k1 k2:Bool) (h:Heap) (l1 l2:Addr):Heap:=(zH4 k1 k2 h l1 l2).push { cls:=.type "zip", data:=.fields #[.none,.bool false,.bool false,.ref (zH2 k1 k2 h l1 l2).objs.size,.ref (zH3 k1 k2 h l1 l2).objs.size] }
theorem zIc (k1 k2:Bool) (l1 l2:Addr) (xs ys:Array Value):Meets (Builtin.«zip.__new__» ⟨[.type "zip", .ref l1,.ref l2],[]⟩) (fun _ R s=>tY k1 s.heap l1 xs/\tY k2 s.heap l2 ys/\
  R (.ok (.ret (.ref (zH4 k1 k2 s.heap l1 l2).objs.size))) { s with heap:=zH5 k1 k2 s.heap l1 l2 }):=
 .of_wp fun prog w A R s h=>by
  obtain ⟨hp,g,d,tk,os⟩:=s
  obtain ⟨hl1,hl2,h⟩:=h
  have hsub:=sub_zip
  have d1:tY k1 (Shared.heap ⟨hp,g,d,tk,os⟩) l1 xs:=hl1
  have d2:tY k2 (Shared.heap ⟨hp.push { cls:=.type (itN k1),data:=.fields #[.ref l1,.int 0 0] },g,d,tk,os⟩) l2 ys:=hl2.go fun o e=>Heap.get?_push_of_some _ e
  wp_walk using zEN d1,zEN d2
  exact ⟨_,rfl,h⟩
section
variable {prog:Program} {w:World} {A:Around} {E:Value->Shared->Prop} {s:Shared}
theorem zIv {k1 k2:Bool} {l1 l2:Addr} {xs ys:Array Value} {Q:Value->Shared->Prop} (d1:tY k1 s.heap l1 xs) (d2:tY k2 s.heap l2 ys)
  (h:∀ h2,wE .none k1 k2 l1 l2 s.heap.objs.size 0 0 h2->(∀ c o,s.heap.get? c=some o->h2.get? c=some o)->Q (.ref (s.heap.objs.size+4)) { s with heap:=h2 }):wpAny (model prog w) A (call (.type "zip") [.ref l1,.ref l2]) Q E s:=by
 refine callType_new F.called_zip (by decide) (F.typeCall_zip_2 _ _) (F.newCall_zip_2 _ _) (fun obj=>F.args_object_init_3 obj _ _) F.entry_zip_new (zIc k1 k2 l1 l2 xs ys) ⟨d1,d2,?_⟩
 have up:∀ {h:Heap} {a:Addr} {o ob:Obj},h.get? a=some o->(h.push ob).get? a=some o:=fun e=>Heap.get?_push_of_some _ e
 have m1:(s.heap.push (zO k1 l1)).objs.size=s.heap.objs.size+1:=Heap.size_push ..
 have m2:(zH2 k1 k2 s.heap l1 l2).objs.size=s.heap.objs.size+2:=(Heap.size_push ..).trans (congrArg (·+1) m1)
 have m3:(zH3 k1 k2 s.heap l1 l2).objs.size=s.heap.objs.size+3:=(Heap.size_push ..).trans (congrArg (·+1) m2)
 have m4:(zH4 k1 k2 s.heap l1 l2).objs.size=s.heap.objs.size+4:=(Heap.size_push ..).trans (congrArg (·+1) m3)
 have r0:(zH5 k1 k2 s.heap l1 l2).get? s.heap.objs.size=some (zO k1 l1):=up (up (up (up (Heap.get?_push_size _ rfl))))
 have r1:(zH5 k1 k2 s.heap l1 l2).get? (s.heap.push (zO k1 l1)).objs.size=some (zO k2 l2):=up (up (up (Heap.get?_push_size _ rfl)))
 have r2:(zH5 k1 k2 s.heap l1 l2).get? (zH2 k1 k2 s.heap l1 l2).objs.size=some _:=up (up (Heap.get?_push_size _ rfl))
 have r3:(zH5 k1 k2 s.heap l1 l2).get? (zH3 k1 k2 s.heap l1 l2).objs.size=some _:=up (Heap.get?_push_size _ rfl)
 have r4:(zH5 k1 k2 s.heap l1 l2).get? (zH4 k1 k2 s.heap l1 l2).objs.size=some _:=Heap.get?_push_size _ rfl
 rw [m1] at r1
 rw [m1,m2] at r2
 rw [m3] at r3
 rw [m2,m3,m4] at r4
 show _/\_
 rw [m4]
 exact ⟨⟨_,r4,rfl⟩,h _ ⟨r4,r2,⟨_,_,r3⟩,.mk r0 rfl rfl,.mk r1 rfl rfl⟩ fun c o x=>up (up (up (up (up x))))⟩
end
end L3
namespace L3
open PySem PySem.Spec PyProof.Rows L2
section
variable {X:Cx} {pins:List (Addr×Obj)} {σ:St} {H:Hp} {s:Shared} {h':Heap} {fp:List Addr}
theorem zKp {t':Nat} {p:Addr} {xs:List V} {us:List Value} (I:Inv X pins σ H s) (hf:∀ b∈fp,qO X pins H b) (k:∀ b o,b∉fp->s.heap.get? b=some o->h'.get? b=some o)
  (hp:s.heap.objs.size<=p) (ht:IsTup h' p us.toArray) (hv:cX xs us) (hz:xs.length<=sizeLine):Inv X pins σ (upd H p (.tup xs)) { s with heap:=h',toks:=t' }:=by
 have hn:H p=none:=I.hok.fresh hp
 have nf:∀ b u,H b=some u->b∉fp:=fun b u e z=>by rw [(hf b z).1] at e;cases e
 have np:∀ b u,H b=some u->upd H p (.tup xs) b=some u:=fun b u e=>by rw [aS (aX e hn)];exact e
 refine I.step (g':=s.gens) (d':=s.drawn) (ch:=fp) (fun b hb=>⟨(hf b hb).2.2.2.1,(hf b hb).2.1,(hf b hb).2.2.2.2.1,(hf b hb).2.2.2.2.2⟩) (fun b o _ _ hc e _=>k b o hc e) (fun b o _ _ hc e _=>⟨o.slots,k b o hc e⟩) (fun b o _ e n=>?_)
  (fun b o hc e=>⟨o,k b o hc e⟩) (fun b xs e=>np _ _ e) (fun b o u e=>np _ _ e) (fun b ps e=>⟨#[],by rw [np _ _ e];simp⟩) (fun m hm=>?_) (fun b u e=>?_) I.bare
 ·rw [aS (Nat.ne_of_lt (Nat.lt_of_lt_of_le (Heap.lt_size e) hp))];exact n
 ·obtain ⟨o,es,ep,ho,r⟩:=hm
  exact ⟨o,es,ep,k _ o (fun z=>(hf _ z).2.1 rfl) ho,r⟩
 ·by_cases hb:b=p
  ·subst hb
   rw [aR] at e;cases e
   exact ⟨hz,us,hv,ht⟩
  ·rw [aS hb] at e
   refine (I.hok b u e).stay (fun c v hc q=>k c v ?_ q) (fun _ q=>np _ _ q) fun _ _ q=>np _ _ q
   rcases hc with z | z
   ·rw [z];exact nf b u e
   ·exact nf c _ z
theorem zLq {t':Nat} (I:Inv X pins σ H s) (hf:∀ b∈fp,qO X pins H b) (k:∀ b o,b∉fp->s.heap.get? b=some o->h'.get? b=some o):Inv X pins σ H { s with heap:=h',toks:=t' }:=by
 have nf:∀ b u,H b=some u->b∉fp:=fun b u e z=>by rw [(hf b z).1] at e;cases e
 refine I.step (g':=s.gens) (d':=s.drawn) (ch:=fp) (fun b hb=>⟨(hf b hb).2.2.2.1,(hf b hb).2.1,(hf b hb).2.2.2.2.1,(hf b hb).2.2.2.2.2⟩) (fun b o _ _ hc e _=>k b o hc e) (fun b o _ _ hc e _=>⟨o.slots,k b o hc e⟩) (fun b o _ e n=>n)
  (fun b o hc e=>⟨o,k b o hc e⟩) (fun b xs e=>e) (fun b o u e=>e) (fun b ps e=>⟨#[],by rw [e];simp⟩) (fun m hm=>?_) (fun b u e=>?_) I.bare
 ·obtain ⟨o,es,ep,ho,r⟩:=hm
  exact ⟨o,es,ep,k _ o (fun z=>(hf _ z).2.1 rfl) ho,r⟩
 ·refine (I.hok b u e).stay (fun c v hc q=>k c v ?_ q) (fun _ q=>q) fun _ _ q=>q
  rcases hc with z | z
  ·rw [z];exact nf b u e
  ·exact nf c _ z
end
def SqK (k:Bool) (K:PySem.W.Frag) (H:Hp) (a:Addr) (xs:List V):Prop:=if k then SqL K H a xs else SqT K H a xs
theorem rD {k:Bool} {K:PySem.W.Frag} {H H':Hp} (e:Same H H') {a:Addr} {xs:List V} (h:SqK k K H a xs):SqK k K H' a xs:=by
 cases k
 ·exact bP e h
 ·exact cK e h
section
variable {X:Cx} {pins:List (Addr×Obj)} {σ:St} {H:Hp} {s:Shared} {k:Bool} {a:Addr} {xs ys:List V}
theorem sqI (I:Inv X pins σ H s) (h:SqK k X.K H a xs):∃ its:List Value,cX xs its/\tY k s.heap a its.toArray/\xs.length<=sizeLine:=by
 cases k
 ·obtain ⟨its,rv,p,hz⟩:=I.tuple h
  exact ⟨its,rv,p,hz⟩
 ·obtain ⟨its,rv,p,hz⟩:=I.list h
  exact ⟨its,rv,p.isList,hz⟩
theorem zFB (I:Inv X pins σ H s) (h:SqK k X.K H a xs) (h':SqK k X.K H a ys):xs=ys:=by
 cases k
 ·exact I.tuple_inj h h'
 ·exact I.list_inj h h'
theorem tY.lt {h:Heap} {l:Addr} {xs:Array Value} (x:tY k h l xs):l < h.objs.size:=by
 cases k<;>(obtain ⟨o,e,_⟩:=x;exact Heap.lt_size e)
end
def Itz (K:PySem.W.Frag) (k1 k2:Bool) (a1 a2:Addr):It:=
  ⟨fun i H=>∃ xs ys x y,SqK k1 K H a1 xs/\SqK k2 K H a2 ys/\xs[i]?=some x/\ys[i]?=some y,
   fun i H v H'=>∃ p x y,v=.ref p/\H p=none/\H'=upd H p (.tup [x,y])/\(∀ xs,SqK k1 K H a1 xs->xs[i]?=some x)/\∀ ys,SqK k2 K H a2 ys->ys[i]?=some y,
   fun i H=>∃ xs ys,SqK k1 K H a1 xs/\SqK k2 K H a2 ys/\(xs.length<=i∨ys.length<=i)⟩
def zPW (k1 k2:Bool) (a1 a2 n:Addr) (i:Nat) (h:Heap):Prop:=wE .none k1 k2 a1 a2 n i i h
theorem rL {h:Heap} {b:Addr} {o:Obj} {d:Data} (e:h.get? b=some o) (hd:o.data=d) (nd:∀ v,d≠.cell v):∃ o,h.get? b=some o/\∀ v,o.data≠.cell v:=⟨o,e,fun v z=>nd v (hd.symm.trans z)⟩
theorem zIw {P:Program} {w:World} {K:PySem.W.Frag} {elts:List Expr} {x1:Nat} {tp:Pos} (k1 k2:Bool) (a1 a2 n:Addr) (l1:a1 < n) (l2:a2 < n):
  Turn P w K (.Tuple elts x1 tp) (Itz K k1 k2 a1 a2) [n+4,n+2,n+3,n,n+1] (n+4) (zPW k1 k2 a1 a2 n) where
 mem:=by simp
 obj:=fun i h st b hb=>by
  obtain ⟨t1,t2,⟨a,b',t3⟩,t4,t5⟩:=st
  obtain ⟨o4,e4,_,d4⟩:=t4.get
  obtain ⟨o5,e5,_,d5⟩:=t5.get
  simp only [List.mem_cons,List.not_mem_nil,or_false] at hb
  rcases hb with rfl | rfl | rfl | rfl | rfl
  ·exact rL t1 rfl fun v z=>by cases z
  ·exact rL t2 rfl fun v z=>by cases z
  ·exact rL t3 rfl fun v z=>by cases z
  ·exact rL e4 d4 fun v z=>by cases z
  ·exact rL e5 d5 fun v z=>by cases z
 keep:=fun i h h' st k=>by
  obtain ⟨t1,t2,⟨a,b',t3⟩,t4,t5⟩:=st
  exact ⟨k _ (by simp) _ t1,k _ (by simp) _ t2,⟨a,b',k _ (by simp) _ t3⟩,t4.go fun o e=>k _ (by simp) o e,t5.go fun o e=>k _ (by simp) o e⟩
 item:=by
  intro X hP hw hK hc i pins s σ H E I hf st hg
  subst hP hw hK
  obtain ⟨xs,ys,x,y,q1,q2,hx,hy⟩:=hg
  obtain ⟨us,r1,s1,z1⟩:=sqI I q1
  obtain ⟨ws,r2,s2,z2⟩:=sqI I q2
  obtain ⟨u,hu,ru⟩:=r1.get hx
  obtain ⟨v,hv,rv⟩:=r2.get hy
  have hu':us.toArray[i]?=some u:=by simpa using hu
  have hv':ws.toArray[i]?=some v:=by simpa using hv
  have st':=st
  obtain ⟨t1,t2,⟨a,b,t3⟩,t4,t5⟩:=st
  refine zOZ (I.ok.hd hc) l1 l2 st' s1 s2 (fun x' y' f1 f2 h' g' p' kz=>?_) (fun q=>?_)
  rotate_left
  ·rw [hu',hv'] at q;rcases q with q | q<;>cases q
  rw [hu'] at f1;cases f1
  rw [hv'] at f2;cases f2
  refine ⟨_,rfl,wpAny_letOwnedTupleGo_zip (s:={ s with heap:=h' }) g'.1 fun h'' c1 c2=>?_⟩
  have zl:s.heap.objs.size≠n+4:=Nat.ne_of_gt (Heap.lt_size t1)
  have np:H s.heap.objs.size=none:=I.hok.fresh (Nat.le_refl _)
  have I1:Inv X pins σ (upd H s.heap.objs.size (.tup [x,y])) { s with heap:=h'',toks:=s.toks }:=zKp (us:=[u,v]) I hf (fun b o hb e=>by
    simp only [List.mem_cons,List.not_mem_nil,or_false,not_or] at hb
    exact c2.extBut b o hb.1 (kz b o hb.1 hb.2.2.1 hb.2.2.2.1 hb.2.2.2.2 e)) (Nat.le_refl _) ⟨_,c2.extBut _ _ zl p',rfl,_,rfl⟩ (.cons ru (.cons rv .nil)) (show 2<=sizeLine by decide)
  refine ⟨.ref s.heap.objs.size,_,I1,rfl,⟨_,x,y,rfl,np,rfl,fun zs hz=>by rw [zFB I hz q1];exact hx,fun zs hz=>by rw [zFB I hz q2];exact hy⟩,g'.fld c1 c2.extBut,fun b hb=>?_⟩
  ·obtain ⟨o,e,_⟩:∃ o,s.heap.get? b=some o/\True:=by
    obtain ⟨o4,e4,_⟩:=t4.get
    obtain ⟨o5,e5,_⟩:=t5.get
    simp only [List.mem_cons,List.not_mem_nil,or_false] at hb
    rcases hb with rfl | rfl | rfl | rfl | rfl
    ·exact ⟨_,t1,trivial⟩
    ·exact ⟨_,t2,trivial⟩
    ·exact ⟨_,t3,trivial⟩
    ·exact ⟨_,e4,trivial⟩
    ·exact ⟨_,e5,trivial⟩
   rw [aS (Nat.ne_of_lt (Heap.lt_size e))]
   exact (hf b hb).1
 done:=by
  intro X hP hw hK hc i pins s σ H E I hf st hg
  subst hP hw hK
  obtain ⟨xs,ys,q1,q2,hl⟩:=hg
  obtain ⟨us,r1,s1,z1⟩:=sqI I q1
  obtain ⟨ws,r2,s2,z2⟩:=sqI I q2
  have st':=st
  obtain ⟨t1,t2,⟨a,b,t3⟩,t4,t5⟩:=st
  have e1:=r1.length
  have e2:=r2.length
  refine zOZ (I.ok.hd hc) l1 l2 st' s1 s2 (fun x y f1 f2=>?_) fun _ h' b7=>⟨rfl,zLq (t':=s.toks) I hf fun b o hb e=>?_⟩
  ·have m1:=(Array.getElem?_eq_some_iff.mp f1).1
   have m2:=(Array.getElem?_eq_some_iff.mp f2).1
   rw [List.size_toArray] at m1 m2
   omega
  ·simp only [List.mem_cons,List.not_mem_nil,or_false,not_or] at hb
   exact b7 b o hb.1 hb.2.2.1 hb.2.2.2.1 hb.2.2.2.2 e
 self:=fun _ _ _ _ _ st h=>wpAny_pyIter_zip st.1 h
section
unseal PEd PEf PTd PWd PAd PSd dC POd PGd fO PId PSx iY PTs PCd PCf
variable {X:Cx} {G:Gx} {fs:Fv} {f:Ev}
def iZp (K:PySem.W.Frag) (ta:TA):TI:=fun σ H R=>ta σ H fun vs H1=>∃ k1 k2 a1 a2 xs ys,vs=[.ref a1,.ref a2]/\SqK k1 K H1 a1 xs/\SqK k2 K H1 a2 ys/\R (Itz K k1 k2 a1 a2) H1
theorem zNK {a b:Expr} {ta:TA} {p pos:Pos} {elts:List Expr} {x1:Nat} {tp:Pos} (hg:Gl X "zip") (hm:X.mg "zip" = none) (ha:PA X [a,b] ta)
  (hs:starEach [a,b] X.env=[(false,eval a X.env),(false,eval b X.env)]:=by rfl) (hs2:starEach [b] X.env=[(false,eval b X.env)]:=by rfl):PI X (.Tuple elts x1 tp) (.Call (.Name "zip" p) [a,b] [] pos) (iZp X.K ta):=by
 intro pins s σ H R I h
 refine Call_ (lV I hg hm boot_zip (PyProof.Rows.callWith_type1 (thn (ha pos pins s σ H _ I h) fun us s1 ⟨vs,H1,I1,r1,q1⟩=>?_) (by rw [hs,hs2]) (by rw [hs2];rfl)))
 obtain ⟨k1,k2,a1,a2,xs,ys,rfl,h1,h2,q⟩:=q1
 cases r1 with
 | cons r rr=>
  cases rr with
  | cons r' rr=>
   cases rr
   cases r
   cases r'
   obtain ⟨us,rv,p1,z1⟩:=sqI I1 h1
   obtain ⟨ws,rw_,p2,z2⟩:=sqI I1 h2
   refine zIv p1 p2 fun h' b1 b6=>wpAny_pyIter_zip (s:={ s1 with heap:=h' }) b1.1 ?_
   refine ⟨s1.heap.objs.size+4,_,_,_,H1,rfl,I1.kept (t':=s1.toks) b6,zIw k1 k2 a1 a2 s1.heap.objs.size p1.lt p2.lt,b1,fun b hb=>?_,q⟩
   have hb':s1.heap.objs.size<=b:=by
    simp only [List.mem_cons,List.not_mem_nil,or_false] at hb
    rcases hb with rfl | rfl | rfl | rfl | rfl<;>omega
   exact I1.fpOk hb' (I1.hok.fresh hb')
theorem zAt:∀ (xs ys:List D) (i:Nat) (d:D),(iT xs ys)[i]?=some d->∃ a b,xs[i]?=some a/\ys[i]?=some b/\d=.tup [a,b]
 | a::r,b::q,0,d,h=>by cases h;exact ⟨a,b,rfl,rfl,rfl⟩
 | a::r,b::q,i+1,d,h=>zAt r q i d h
 | [],_,i,d,h=>by cases i<;>cases h
 | a::r,[],i,d,h=>by cases i<;>cases h
theorem zBe:∀ (xs ys:List D),(iT xs ys).length=min xs.length ys.length
 | a::r,b::q=>by
  have:=zBe r q
  simp only [iT,List.length_cons,this]
  omega
 | [],_=>by simp [iT]
 | a::r,[]=>by simp [iT]
theorem zHi {K:PySem.W.Frag} {Hi:Hp} {k1 k2:Bool} {a1 a2:Addr} {xs ys:List V} {ds es:List D} (h1:SqK k1 K Hi a1 xs) (h2:IsDs K Hi xs ds) (h3:SqK k2 K Hi a2 ys) (h4:IsDs K Hi ys es):
  sQ K Hi (Itz K k1 k2 a1 a2) (iT ds es):=fun Hi1 H1 s1 s2 i=>by
 have g1:=rD (s1.trans s2) h1
 have g3:=rD (s1.trans s2) h3
 refine ⟨fun hl=>⟨xs,ys,g1,g3,?_⟩,fun d hd=>?_⟩
 ·rw [zBe] at hl
  have e1:=h2.length
  have e2:=h4.length
  omega
 ·obtain ⟨a,b,ha,hb,rfl⟩:=zAt ds es i d hd
  obtain ⟨v,hv,rv⟩:=h2.at ha
  obtain ⟨w,hw,rw_⟩:=h4.at hb
  refine ⟨⟨xs,ys,v,w,g1,g3,hv,hw⟩,fun x H2 y=>?_⟩
  obtain ⟨p,x',y',rfl,hp,rfl,y1,y2⟩:=y
  have e1:=y1 xs g1
  have e2:=y2 ys g3
  rw [hv] at e1;cases e1
  rw [hw] at e2;cases e2
  have hi:=s2.none hp
  have sm:=cG hi (.tup [v,w])
  exact ⟨upd Hi1 p (.tup [v,w]),Ext.new s2 hp,.tup (.inl (.inl aR)) (.cons ((rv.mono s1).mono sm) (.cons ((rw_.mono s1).mono sm) .nil))⟩
theorem zOY {K:PySem.W.Frag} {H:Hp} {v:V} {d:D} {ds:List D} (h:IsD K H v d) (e:zHn d=some ds):∃ k a xs,v=.ref a/\SqK k K H a xs/\IsDs K H xs ds:=by
 cases d with
 | lst es=>cases e;obtain ⟨a,xs,rfl,h1,h2⟩:=h.lstI;exact ⟨true,a,xs,rfl,h1,h2⟩
 | tup es=>cases e;obtain ⟨a,xs,rfl,h1,h2⟩:=h.tupI;exact ⟨false,a,xs,rfl,h1,h2⟩
 | _=>cases e
theorem zDO {a b:Expr} {p pos:Pos} {elts:List Expr} {x1:Nat} {tp:Pos} (hg:Gl X "zip") (hm:X.mg "zip" = none) (ha:PAd X G [a,b] fs)
  (hs:starEach [a,b] X.env=[(false,eval a X.env),(false,eval b X.env)]:=by rfl) (hs2:starEach [b] X.env=[(false,eval b X.env)]:=by rfl):
  PId X G (.Tuple elts x1 tp) (.Call (.Name "zip" p) [a,b] [] pos) (zHG fs):=PI.wk (zNK hg hm ha hs hs2) fun σ H Q q=>by
 obtain ⟨ρ,Hi,R,ou⟩:=q
 refine zHl R ou fun vs ds Hi1 H1 e1 R1 r1 o1=>?_
 split at o1
 ·rename_i x y
  obtain ⟨v,w,rfl,h,h'⟩:=r1.two
  split at o1
  ·rename_i ds es q1 q2
   obtain ⟨k1,a1,xs,rfl,g1,g2⟩:=zOY h q1
   obtain ⟨k2,a2,ys,rfl,g3,g4⟩:=zOY h' q2
   exact ⟨k1,k2,a1,a2,xs,ys,rfl,rD R1.s g1,rD R1.s g3,o1.here R1.s _ (zHi g1 g2 g3 g4)⟩
  ·exact o1.elim
 ·exact o1.elim
end
end L3
namespace L3
open PySem PySem.Spec PyProof.Rows L2
unseal PEd PEf PTd PWd PAd PSd dC POd PGd fO PId PSx iY PTs PCd PCf
structure BlkOk2 (X:Cx) (xs:List Str) (scope:Scope):Prop where
 kind:scope.kind=.function
 cell:∀ y∈scope.names,y.2≠.cell
 loc:∀ x∈xs,scope.names.lookup x=some .local
 names:∀ y∈scope.names,y.2=.local->scope.names.lookup y.1=some .local
 fre:∀ p∈scope.names,p.2=.free->X.env.kindOf p.1=some .cell∨X.env.kindOf p.1=some .free
 oth:∀ y∈X.N,scope.names.lookup y≠some .local
def zBl (X:Cx) (xs:List Str) (scope:Scope) (C:Addr) (s₂:Shared) (H₂:Hp) (fp:List Addr):Cx:=
  { prog:=X.prog,w:=X.w,K:=X.K,mg:=X.mg,base:=X.base,A:=X.A,N:=X.N++xs,s₀:=s₂,H₀:=H₂,env:=compEnvC scope (zCq X.env scope.names []) C X.env,outer:=X.stack,stack:=X.stack,
    ex:=fp,fn:=fun _=>false,calm:=X.calm,pn:=X.pn,xe:=fun _ _=>False }
section
variable {X:Cx} {pins:List (Addr×Obj)} {σ:St} {H:Hp} {s₂:Shared} {xs:List Str} {scope:Scope} {fp:List Addr} {D C:Addr} {h₁:Heap}
theorem BlkOk2.cl (B:BlkOk2 X xs scope) (I:Inv X pins σ H s₂):∀ p∈scope.names,p.2=.free->∃ c,X.env.cells.lookup p.1=some c:=fun p hp e=>I.ok.has p.1 (B.fre p hp e)
theorem zMr (I:Inv X pins σ H s₂) (B:BlkOk2 X xs scope) (hfp:∀ b∈fp,qO X pins H b) (hfl:∀ b∈fp,b < s₂.heap.objs.size) (hD:s₂.heap.objs.size<=D) (hC:s₂.heap.objs.size<=C) (hDC:D≠C)
  (old:∀ b o,s₂.heap.get? b=some o->h₁.get? b=some o) {n:Nat} (hacc:h₁.get? D=some { cls:=.type "list", data:=.seq ([]:List Value).toArray n }) {m:Str->Option Value} (hns:h₁.Ns C m) (t:Nat):
  Inv (zBl X xs scope C s₂ H fp) pins (σ++xs.map fun _=>none) (upd H D (.lst [])) { s₂ with heap:=h₁,toks:=t }:=by
 have sub:=sF scope.names [] (B.cl I) (fun y c e=>nomatch e)
 have old_lt:∀ {b:Addr} {o:Obj},s₂.heap.get? b=some o->b≠D/\b≠C:=fun e=>⟨Nat.ne_of_lt (Nat.lt_of_lt_of_le (Heap.lt_size e) hD),Nat.ne_of_lt (Nat.lt_of_lt_of_le (Heap.lt_size e) hC)⟩
 have free:∀ {b:Addr},b≠D->H b=none->upd H D (.lst []) b=none:=fun n e=>by rw [aS n];exact e
 refine ⟨⟨I.ok.mod,B.kind,I.ok.glob,I.ok.blt,hC,fun y z c e1 e2=>I.ok.inj y z c (sub y c e1) (sub z c e2),fun y hy=>?_,fun y c e=>(nomatch e),I.ok.hd,I.ok.frames,.inl rfl,fun b hb=>⟨Nat.ne_of_lt (Nat.lt_of_lt_of_le (hfl b hb) hC),fun y c e=>(hfp b hb).2.2.2.2.1 y c (sub y c e)⟩,
  I.bs,Nat.le_trans I.ok.bsz I.sz,fun b o e hb=>?_,fun b hb z=>?_,I.stack,I.stkFree⟩,rfl,I.bare,Un.laid old hD (I.hok.fresh hD),⟨m,hns,fun i y v e1 e2 e3=>?_⟩,fun y c e=>?_,free (Ne.symm hDC) (I.hok.fresh hC),fun y c e=>?_,fun p hp=>?_,I.hok.laid old hD ⟨Nat.zero_le _,[],n,.nil,hacc⟩,?_⟩
 ·have:∃ k,(k=NameKind.cell∨k=NameKind.free)/\((relabel scope X.env).names).lookup y=some k:=hy.elim (fun h=>⟨_,.inl rfl,h⟩) fun h=>⟨_,.inr rfl,h⟩
  obtain ⟨k,hk,e⟩:=this
  have e':(y,NameKind.free)∈scope.names:=by
   rcases bZ e with z | ⟨_,z⟩
   ·rcases hk with rfl | rfl
    ·exact absurd rfl (B.cell _ (bK z))
    ·exact bK z
   ·exact bK z
  exact rQ scope.names [] y e'
 ·rcases (hfp b hb).2.2.2.1 with z | z
  ·exact I.ok.noex b o e z
  ·exact absurd (Nat.lt_of_lt_of_le (Heap.lt_size e) (Nat.le_trans I.ok.bsz z)) (Nat.lt_irrefl _)
 ·rcases List.mem_cons.mp (I.stkSub b z) with w | w
  ·exact (hfp b hb).2.1 w
  ·exact (hfp b hb).2.2.1 w
 ·
  have hi:i < σ.length:=by
   by_cases hi:i < σ.length
   ·exact hi
   ·exfalso
    rw [List.getElem?_append_right (by omega),List.getElem?_map] at e2
    cases q:xs[i - σ.length]? with
    | none=>rw [q] at e2;cases e2
    | some z=>rw [q] at e2;cases e2
  rw [List.getElem?_append_left hi] at e2
  have e1':(X.N++xs)[i]?=some y:=e1
  rw [List.getElem?_append_left (by rw [<-I.len];exact hi)] at e1'
  cases q:X.N[i]? with
  | none=>rw [q] at e1';cases e1'
  | some z=>
   rw [q] at e1'
   have hy:z=y:=Option.some.inj e1'
   have hz:z∈X.N:=List.mem_of_getElem? q
   subst hy
   have fr:(z,NameKind.free)∈scope.names:=by
    rcases e3 with h | h | h
    ·rcases bZ h with h | ⟨h,_⟩
     ·exact absurd h (B.oth z hz)
     ·cases h
    ·rcases bZ h with h | ⟨_,h⟩
     ·exact absurd rfl (B.cell _ (bK h))
     ·exact bK h
    ·rcases bZ h with h | ⟨h,_⟩
     ·exact bK h
     ·cases h
   have kd:=B.fre _ fr rfl
   obtain ⟨m0,hn0,hl⟩:=I.loc
   obtain ⟨u,ru,lk⟩:=hl i z v q e2 (kd.elim (fun h=>.inr (.inl h)) fun h=>.inr (.inr h))
   refine ⟨u,ru,.inr ⟨?_,?_⟩⟩
   ·rcases e3 with h | h | h
    ·rcases bZ h with h | ⟨h,_⟩
     ·exact absurd h (B.oth z hz)
     ·cases h
    ·exact .inl h
    ·exact .inr h
   ·rcases lk with ⟨k1,_⟩ | ⟨_,c,hc,hcell⟩
    ·rcases kd with kd | kd<;>(rw [kd] at k1;cases k1)
    ·obtain ⟨c',hc'⟩:=rQ (env:=X.env) scope.names [] z fr
     have:=sub z c' hc'
     rw [hc] at this
     cases this
     obtain ⟨o,ho,hd⟩:=hcell
     exact ⟨c,hc',o,old _ _ ho,hd⟩
 ·obtain ⟨v,o,ho,hd⟩:=I.cell y c (sub y c e)
  exact ⟨v,o,old _ _ ho,hd⟩
 ·obtain ⟨v,o,ho,hd⟩:=I.cell y c (sub y c e)
  exact free (old_lt ho).1 (I.freeC y c (sub y c e))
 ·obtain ⟨e,n,ne,nf,d⟩:=I.pin p hp
  refine ⟨old _ _ e,free (old_lt e).1 n,(old_lt e).2,fun z=>?_,d⟩
  rcases List.mem_cons.mp (I.stkSub _ z) with w | w
  ·exact ne w
  ·exact nf w
 ·show (σ++xs.map fun _=>none).length=(X.N++xs).length
  rw [List.length_append,List.length_append,List.length_map,I.len]
end
theorem zBD {f:Ev} {ρ:Rho} {d:D} {ds es:List D} (h:fE f ρ (d::ds)=.ok es):
  ∃ a b e es',d=.tup [a,b]/\f (ρ++[.val a,.val b])=.ok e/\fE f ρ ds=.ok es'/\es=e::es':=by
 unfold fE at h
 split at h
 ·cases ‹_=[]›
 ·rename_i a b ds' q
  cases q
  cases hf:noErr (f (ρ++[.val a,.val b])) with
  | no=>rw [hf] at h;cases h
  | err c=>rw [hf] at h;cases h
  | ok e=>
   rw [hf] at h
   cases hr:fE f ρ ds with
   | no=>simp only [Res.bind,hr] at h;cases h
   | err c=>simp only [Res.bind,hr] at h;cases h
   | ok es'=>
    simp only [Res.bind,hr] at h
    cases h
    exact ⟨a,b,e,es',rfl,yJ hf,rfl,rfl⟩
 ·cases h
theorem zAh {f:Ev} {ρ:Rho} {c:Str}:∀ {ds:List D},fE f ρ ds≠.err c
 | []=>fun h=>by cases h
 | d::ds=>fun h=>by
  unfold fE at h
  split at h
  ·cases ‹_=[]›
  ·rename_i a b ds' q
   cases q
   cases hf:noErr (f (ρ++[.val a,.val b])) with
   | no=>rw [hf] at h;cases h
   | err c=>cases q:f (ρ++[.val a,.val b])<;>(rw [q] at hf;cases hf)
   | ok e=>
    rw [hf] at h
    cases hr:fE f ρ ds with
    | no=>simp only [Res.bind,hr] at h;cases h
    | err c'=>exact zAh hr
    | ok es'=>simp only [Res.bind,hr] at h;cases h
  ·cases h
section
variable {X:Cx} {G:Gx} {elt iter:Expr} {xa xb:Str} {pa pb tp pos:Pos} {x1:Nat} {scope:Scope} {it:Fv} {f:Ev} {k:Nat}
theorem zDN (hc:X.calm=true/\TB X.K X.mg G.Bi G.B) (hr:Room k X.A) (Bk:BlkOk2 X [xa,xb] scope) (hN:(X.N++[xa,xb]).Nodup) (hi:PId X G (.Tuple [.Name xa pa,.Name xb pb] x1 tp) iter it)
  (hb:∀ (C:Addr) (s₂:Shared) (H₂:Hp) (fp:List Addr) (G':Gx),Good (zBl X [xa,xb] scope C s₂ H₂ fp) G' k->PEd (zBl X [xa,xb] scope C s₂ H₂ fp) G' elt f)
  (hs:∀ x,foldedSetIterable iter X.env x=pure x:=by intro _;rfl)
  {pins:List (Addr×Obj)} {s:Shared} {σ:St} {H Hi:Hp} {ρ:Rho} {use:Option (Value->Sem Unit)} {Q':Value->Shared->Prop} {Qa:Addr->Hp->Prop} {cpos:Pos} (I:Inv X pins σ H s) (R:kE X G Hi H σ ρ)
  (ou:Out G Hi H ((qI it f) ρ) fun ds Hi' H'=>∀ a,zIi X.K H Hi' H' a ds->Qa a H') (hend:zPo X pins σ use Q' Qa):
  wpAny (model X.prog X.w) X.A (comprehension (.ListComp elt [⟨.Tuple [.Name xa pa,.Name xb pb] x1 tp,iter,[],0⟩] scope pos) scope X.env cpos (newList []) false (eval iter X.env) use) Q' X.xe s:=by
 refine wpAny_comprehension_free (use:=use) rfl hs (zJD (Bk.cl I)) Bk.kind Bk.names ?_
 refine thn (hi pins s σ H (fun J H2=>∃ ds Hi2,Ext Hi H Hi2 H2/\sQ X.K Hi2 J ds/\Out G Hi2 H2 (if ds.length<=16777215 then fE f ρ ds else .no) fun ds Hi' H'=>∀ a,zIi X.K H Hi' H' a ds->Qa a H') I
  ⟨ρ,Hi,R,(Out.bind ou).imp fun ds Hi2 H2 e2 o2 J gv=>⟨ds,Hi2,e2,gv,o2⟩⟩) fun v s1 h1=>thn h1 fun itv s2 h2=>?_
 obtain ⟨itA,fp,tn,J,H2,rfl,I2,T,st2,f2,ds,Hi2,e2,gv,ou2⟩:=h2
 have hlen:ds.length<=16777215:=by
  by_cases hlen:ds.length<=16777215
  ·exact hlen
  ·rw [if_neg hlen] at ou2;exact ou2.elim
 rw [if_pos hlen] at ou2
 cases hes:fE f ρ ds with
 | no=>rw [hes] at ou2;exact ou2.elim
 | err c=>exact absurd hes zAh
 | ok es=>
  rw [hes] at ou2
  have R2:kE X G Hi2 H2 σ ρ:=R.grow e2
  refine wpAny_newObj_type (wpAny_newFunctionEnv Bk.cell (by intro y hy;simp at hy) (fun h₁ hns₁ hsb₁=>?_) Bk.kind)
  dsimp only at hns₁ hsb₁ ⊢
  generalize hH2:s2.heap.push { cls:=.type "list", dict:=none,data:=.seq ([]:List Value).toArray }=HP at hns₁ hsb₁ ⊢
  have hC:HP.objs.size=s2.heap.objs.size+1:=by rw [<-hH2,Heap.size_push]
  have hDC:s2.heap.objs.size≠HP.objs.size:=by rw [hC];omega
  have ltC:∀ {b:Addr} {o:Obj},s2.heap.get? b=some o->b≠HP.objs.size:=fun e=>by rw [hC];exact Nat.ne_of_lt (Nat.lt_succ_of_lt (Heap.lt_size e))
  have old:∀ b o,s2.heap.get? b=some o->h₁.get? b=some o:=fun b o e=>hsb₁.extBut b o (ltC e) (Heap.get?_push_of_some _ (hH2 ▸ Heap.get?_push_of_some _ e))
  have hacc:h₁.get? s2.heap.objs.size=some { cls:=.type "list", data:=.seq ([]:List Value).toArray 0 }:=hsb₁.extBut _ _ hDC (Heap.get?_push_of_some _ (hH2 ▸ Heap.get?_push_size _ rfl))
  have hfl:∀ b∈fp,b < s2.heap.objs.size:=fun b hb=>by obtain ⟨o,e,_⟩:=T.obj _ _ st2 b hb;exact Heap.lt_size e
  have IE:=zMr (t:=s2.toks+([]:List (Str×Value)).length) I2 Bk f2 hfl (Nat.le_refl _) (by rw [hC];omega) hDC old hacc hns₁
  have sub:=sF scope.names [] (Bk.cl I2) (fun y c e=>nomatch e)
  have H2D:H2 s2.heap.objs.size=none:=I2.hok.fresh (Nat.le_refl _)
  have HD:H s2.heap.objs.size=none:=e2.h.none H2D
  have Hi2D:Hi2 s2.heap.objs.size=none:=e2.s.none H2D
  generalize hX:zBl X [xa,xb] scope HP.objs.size s2 H2 fp=Y at IE
  have GY:Good Y ⟨G.B,G.Bi,fun _ _=>False⟩ k:=by
   subst hX
   exact ⟨hc.1,hr,fun pins σ H s e s' _ h=>by obtain ⟨_,_,_,_,_,c,_,z⟩:=h;exact z.elim,PassesOwn.never,hc.2⟩
  have hel:=(hX ▸ hb HP.objs.size s2 H2 fp ⟨G.B,G.Bi,fun _ _=>False⟩ (hX.symm ▸ GY):PEd Y ⟨G.B,G.Bi,fun _ _=>False⟩ elt f)
  have stat:∀ {H':Hp},(∀ b∈fp,H' b=none)->∀ b∈fp,qO Y pins H' b:=fun hn b hb=>by
   subst hX
   refine ⟨hn b hb,?_,fun z=>?_,.inl hb,fun y c e=>(f2 b hb).2.2.2.2.1 y c (sub y c e),(f2 b hb).2.2.2.2.2⟩
   ·show b≠HP.objs.size
    rw [hC];exact Nat.ne_of_lt (Nat.lt_succ_of_lt (hfl b hb))
   ·rcases List.mem_cons.mp (I2.stkSub b z) with w | w
    ·exact (f2 b hb).2.1 w
    ·exact (f2 b hb).2.2.1 w
  have YN:Y.N.Nodup:=by subst hX;exact hN
  have Ya:Y.N[σ.length]?=some xa:=by
   subst hX
   show (X.N++[xa,xb])[σ.length]?=some xa
   rw [List.getElem?_append_right (by rw [I2.len];omega),I2.len,Nat.sub_self]
   rfl
  have Yb:Y.N[σ.length+1]?=some xb:=by
   subst hX
   show (X.N++[xa,xb])[σ.length+1]?=some xb
   rw [List.getElem?_append_right (by rw [I2.len];omega),I2.len,Nat.add_sub_cancel_left]
   rfl
  have Yla:Y.env.scope.names.lookup xa=some .local:=by subst hX;exact lookup_relabel_local (Bk.loc xa (by simp))
  have Ylb:Y.env.scope.names.lookup xb=some .local:=by subst hX;exact lookup_relabel_local (Bk.loc xb (by simp))
  have asg:PG Y (.Tuple [.Name xa pa,.Name xb pb] x1 tp) (L2.zIn Y.K 2 (L2.qR (L2.gName σ.length) (L2.qR (L2.gName (σ.length+1)) L2.zIb))):=
   zJk (by subst hX;exact hc.1) (wM (zBR YN Ya (.inl Yla) (.inr Yla)) (wM (zBR YN Yb (.inl Ylb) (.inr Ylb)) zFj))
  have Ye:Y.env=compEnvC scope (zCq X.env scope.names []) HP.objs.size X.env:=by subst hX;rfl
  have Yxe:∀ e s,¬ Y.xe e s:=by subst hX;exact fun _ _ h=>h
  have tn1:tn 0 h₁:=T.keep _ _ _ st2 fun b _ o e=>old b o e
  have eN:∀ s3:Shared,s3={ s2 with heap:=h₁,toks:=s2.toks+([]:List (Str×Value)).length }->
    codeAny (model X.prog X.w) X.A (.compLoop (.ListComp elt [⟨.Tuple [.Name xa pa,.Name xb pb] x1 tp,iter,[],0⟩] scope pos) 0 (.ref itA) (.ref s2.heap.objs.size) Y.env) (compPost (model X.prog X.w) X.A X.xe use Q' (.ref s2.heap.objs.size) HP.objs.size) s3:=by
   rintro s3 rfl
   subst hX
   have fr0:∀ b∈fp,upd H2 s2.heap.objs.size (.lst []) b=none:=fun b hb=>by
    rw [aS (Nat.ne_of_lt (hfl b hb))]
    exact (f2 b hb).1
   refine PyProof.Rows.LCp.codeAny_compLoop_pair (fun n s'=>∃ c:CW,n=ds.length - c.i/\CS (zBl X [xa,xb] scope HP.objs.size s2 H2 fp) pins σ tn fp Hi2 H2 s2.heap.objs.size 2 (fun i=>fE f ρ (ds.drop i)) es c s') ?_ ds.length
    ⟨⟨0,[none,none],_,Hi2,[],[],es⟩,rfl,⟨IE,rfl,tn1,fr0,(Ext.refl e2.s).trans (Ext.newF e2.s H2D),aR,Hi2D,.nil,Nat.le_refl _,hes,rfl⟩⟩
   ·rintro n s3 ⟨⟨i,vv,H3,Hi3,ys,done,rest⟩,rfl,I3,wd3,st3,fr3,e3,hD3,hiD3,rd3,hl3,hr3,hes3⟩
    dsimp only at I3 wd3 st3 fr3 e3 hD3 hiD3 rd3 hl3 hr3 hes3 ⊢
    obtain ⟨v,v',rfl⟩:∃ v v',vv=[v,v']:=by
     match vv,wd3 with
     | [v,v'],_=>exact ⟨v,v',rfl⟩
    obtain ⟨w1,w2⟩:=gv Hi3 H3 e3.i e3.s i
    have lift:∀ {α:Type} {m:Sem α} {Q':α->Shared->Prop} {E:Value->Shared->Prop} {s':Shared},wpAny (model X.prog X.w) X.A m Q' (zBl X [xa,xb] scope HP.objs.size s2 H2 fp).xe s'->wpAny (model X.prog X.w) X.A m Q' E s':=fun h=>wpAny_mono h (fun _ _ z=>z) fun e s z=>(Yxe e s z).elim
    by_cases hlt:i < ds.length
    ·obtain ⟨d,hd⟩:∃ d,ds[i]?=some d:=⟨_,List.getElem?_eq_getElem hlt⟩
     obtain ⟨go,yl⟩:=w2 d hd
     have e4:ds.drop i=d::ds.drop (i+1):=by
      rw [List.getElem?_eq_getElem hlt] at hd
      cases hd
      exact List.drop_eq_getElem_cons hlt
     rw [e4] at hr3
     refine thn (T.item (zBl X [xa,xb] scope HP.objs.size s2 H2 fp) rfl rfl rfl hc.1 i pins s3 _ H3 _ I3 (stat fr3) st3 go) fun r s4 ⟨u,hru,h4⟩=>?_
     subst hru
     refine thn h4 fun _ s5 h5=>?_
     obtain ⟨xv,H5,I5,r5,y5,st5,fr5⟩:=h5
     obtain ⟨Hi5,e5,rd5⟩:=yl xv H5 y5
     have I5':=I5.pinned (stat fr5) (T.obj _ _ st5)
     obtain ⟨a,b,e,es',rfl,hf,hr4,hee⟩:=zBD hr3
     obtain ⟨pa',ps,rfl,hq,hps⟩:=rd5.tupI
     obtain ⟨va,vb,rfl,ra,rb⟩:=hps.two
     refine lift (thn (asg _ s5 _ H5 _ u (fun σ' H'=>σ'=σ++[some va,some vb]/\H'=H5) I5' r5 ⟨pa',_,rfl,bP (e3.trans e5).s hq,rfl,va,_,rfl,vb,_,rfl,rfl,?_,rfl⟩) fun _ s6 h6=>?_)
     ·rw [List.set_append_right _ _ (Nat.le_refl _),Nat.sub_self,List.set_append_right _ _ (Nat.le_succ _),Nat.succ_sub (Nat.le_refl _),Nat.sub_self];rfl
     obtain ⟨σ6,H6,I6,rfl,rfl⟩:=h6
     have E5:Ext Hi2 H2 Hi5 H6:=e3.trans e5
     have R5:kE (zBl X [xa,xb] scope HP.objs.size s2 H2 fp) ⟨G.B,G.Bi,fun _ _=>False⟩ Hi5 H6 (σ++[some va,some vb]) (ρ++[.val a,.val b]):=by
      have:=Rel.snoc (Rel.snoc (R2.grow E5) ra) rb
      rw [List.append_assoc,List.append_assoc] at this
      exact this
     obtain ⟨hD5,hiD5⟩:=e5.out hD3 hiD3
     have rd5':=rd3.mono e5.i
     have again:∀ {H8 Hi8:Hp} {ys':List V} {done' rest':List D} {s8:Shared},Inv (zBl X [xa,xb] scope HP.objs.size s2 H2 fp) (pins++tJ fp s5.heap) (σ++[some va,some vb]) H8 s8->Ext Hi2 H2 Hi8 H8->H8 s2.heap.objs.size=some (.lst ys')->Hi8 s2.heap.objs.size=none->IsDs X.K Hi8 ys' done'->done'.length<=i+1->
       fE f ρ (ds.drop (i+1))=.ok rest'->es=done'++rest'->∃ m,m < ds.length - i/\∃ c:CW,m=ds.length - c.i/\CS (zBl X [xa,xb] scope HP.objs.size s2 H2 fp) pins σ tn fp Hi2 H2 s2.heap.objs.size 2 (fun i=>fE f ρ (ds.drop i)) es c s8:=fun {H8 Hi8 ys' done' rest' s8} I8 E8 a1 a2 a3 a4 a5 a6=>by
      refine ⟨ds.length - (i+1),by omega,⟨i+1,[some va,some vb],H8,Hi8,ys',done',rest'⟩,rfl,⟨I8.unpinned,rfl,T.keep _ _ _ st5 fun b hb o e=>(I8.pin (b,o) (List.mem_append_right _ (List.mem_append_right _ (eM hb e)))).1,fun b hb=>?_,E8,a1,a2,a3,a4,a5,a6⟩⟩
      obtain ⟨o,e,_⟩:=T.obj _ _ st5 b hb
      exact (I8.pin (b,o) (List.mem_append_right _ (List.mem_append_right _ (eM hb e)))).2.1
     refine lift (thn (hel _ s6 _ H6 (fun w H'=>∃ Hi',Ext Hi5 H6 Hi' H'/\IsD X.K Hi' w e) I6 ⟨_,Hi5,R5,by rw [hf];exact fun Hi' H' ee w hw=>⟨Hi',ee,hw⟩⟩) fun u8 s8 h8=>?_)
     obtain ⟨w8,H8,I8,r8,Hi8,e8,rw8⟩:=h8
     obtain ⟨hD8,hiD8⟩:=e8.out hD5 hiD5
     have rdy:IsDs X.K Hi8 ys done:=rd5'.mono e8.i
     refine lift (thn (oT (X:=(zBl X [xa,xb] scope HP.objs.size s2 H2 fp)) _ s8 _ H8 (.ref s2.heap.objs.size) [w8] (.ref s2.heap.objs.size) [u8] (fun _ H'=>H'=upd H8 s2.heap.objs.size (.lst (ys++[w8]))) I8 rfl (.cons r8 .nil) ⟨_,ys,w8,rfl,rfl,hD8,?_,rfl⟩) fun _ s9 h9=>?_)
     ·rw [rdy.length]
      exact Nat.lt_of_le_of_lt hl3 (Nat.lt_of_lt_of_le hlt (Nat.le_trans hlen (by decide)))
     ·obtain ⟨_,H9,I9,_,rfl⟩:=h9
      refine again I9 (Ext.rewrite (E5.trans e8) H2D hiD8 ⟨_,hD8⟩) aR hiD8 (rdy.snoc rw8) (by rw [List.length_append];exact Nat.succ_le_succ hl3) hr4 ?_
      rw [hes3,hee,List.append_assoc];rfl
    ·rw [List.drop_eq_nil_of_le (by omega),fE] at hr3
     cases hr3
     refine thn (T.done (zBl X [xa,xb] scope HP.objs.size s2 H2 fp) rfl rfl rfl hc.1 i pins s3 _ H3 _ I3 (stat fr3) st3 (w1 (by omega))) fun r s4 ⟨hrn,I4⟩=>?_
     subst hrn
     obtain ⟨m4,hn4,_⟩:=I4.loc
     have fC:H3 HP.objs.size=none:=I4.free
     have nC:∀ b u,H3 b=some u->b≠HP.objs.size:=fun b u e z=>by rw [z,fC] at e;cases e
     have U4:=I4.base
     refine hend HP.objs.size s2.heap.objs.size m4 s4 H3 hn4 (fun h' hs'=>?_) (I2.fpOk (by rw [hC];omega) fC) ?_
     ·have kp:∀ b o,b≠HP.objs.size->s4.heap.get? b=some o->h'.get? b=some o:=fun b o hb e=>hs'.extBut b o hb e
      refine Inv.call' I2 (ch:=fp) I4.os ⟨fun b o e n hb hx=>kp b o (ltC e) (U4.keep b o e n hb hx),fun b o e n hb hx=>?_,U4.free,fun b o e hx=>?_,U4.tups,U4.frzs,U4.tbls⟩ (fun b u e=>?_) I4.bare (fun b hb=>⟨(f2 b hb).2.2.2.1,(f2 b hb).2.1,(f2 b hb).2.2.2.2.1,(f2 b hb).2.2.2.2.2⟩)
      ·obtain ⟨sl,q⟩:=U4.slot b o e n hb hx
       exact ⟨sl,kp b _ (ltC e) q⟩
      ·obtain ⟨o',q⟩:=U4.there b o e hx
       exact ⟨o',kp b _ (ltC e) q⟩
      ·refine (I4.hok b u e).stay (fun c v hc q=>kp c v ?_ q) (fun _ q=>q) fun _ _ q=>q
       rcases hc with z | z
       ·rw [z];exact nC b u e
       ·exact nC c _ z
     ·refine ou2 Hi3 H3 e3 _ ⟨HD,hiD3,ys,hD3,?_⟩
      rw [hes3,List.append_nil]
      exact rd3
  rw [Ye] at eN
  exact codeAny_compStart_list (eN _ rfl) (T.self _ 0 _ _ _ tn1 (eN _ rfl))
theorem zIl (hc:X.calm=true/\TB X.K X.mg G.Bi G.B) (hr:Room k X.A) (Bk:BlkOk2 X [xa,xb] scope) (hN:(X.N++[xa,xb]).Nodup) (hi:PId X G (.Tuple [.Name xa pa,.Name xb pb] x1 tp) iter it)
  (hb:∀ (C:Addr) (s₂:Shared) (H₂:Hp) (fp:List Addr) (G':Gx),Good (zBl X [xa,xb] scope C s₂ H₂ fp) G' k->PEd (zBl X [xa,xb] scope C s₂ H₂ fp) G' elt f)
  (hs:∀ x,foldedSetIterable iter X.env x=pure x:=by intro _;rfl):PEf X G (.ListComp elt [⟨.Tuple [.Name xa pa,.Name xb pb] x1 tp,iter,[],0⟩] scope pos) (qI it f):=by
 intro pins s σ H Q I w
 obtain ⟨ρ,Hi,R,ou⟩:=w
 rw [eval_ListComp]
 refine zDN hc hr Bk hN hi hb hs (use:=none) (Qa:=fun a H'=>Q (.ref a) H') I R ou fun C A m s4 H3 hn hI _ q=>?_
 exact ⟨m,hn,fun h' hs'=>⟨.ref A,H3,hI h' hs',rfl,q⟩⟩
def zKt (sc:Scope) (N:List Str) (xs:List Str) (scope:Scope):Bool:=
 scope.names.all (fun y=>y.2 != .cell) && xs.all (fun x=>scope.names.lookup x==some .local) && scope.names.all (fun y=>y.2 != .local || scope.names.lookup y.1==some .local)
  && scope.names.all (fun p=>p.2 != .free || (sc.names.lookup p.1==some .cell || sc.names.lookup p.1==some .free)) && N.all (fun y=>scope.names.lookup y != some .local)
theorem zKF {sc:Scope} {N xs:List Str} (hk:scope.kind=.function) (hsc:X.env.scope=sc) (hN:X.N=N) (h:zKt sc N xs scope=true):BlkOk2 X xs scope:=by
 unfold zKt at h
 simp only [Bool.and_eq_true] at h
 obtain ⟨⟨⟨⟨h1,h2⟩,h3⟩,h4⟩,h5⟩:=h
 subst hN hsc
 refine ⟨hk,fun y hy e=>?_,fun x hx=>?_,fun y hy e=>?_,fun p hp e=>?_,fun y hy e=>?_⟩
 ·have:=List.all_eq_true.mp h1 y hy
  rw [e] at this;cases this
 ·exact beq_iff_eq.mp (List.all_eq_true.mp h2 x hx)
 ·have:=List.all_eq_true.mp h3 y hy
  rw [e] at this
  simpa using this
 ·have:=List.all_eq_true.mp h4 p hp
  rw [e] at this
  have q:X.env.scope.names.lookup p.1=some .cell∨X.env.scope.names.lookup p.1=some .free:=by simpa using this
  exact q
 ·have:=List.all_eq_true.mp h5 y hy
  rw [e] at this
  cases this
theorem nJ {sc:Scope} {N:List Str} (W:Good X G k) (hnd:(N++[xa,xb]).Nodup) (hk:scope.kind=.function) (hsc:X.env.scope=sc) (hN:X.N=N) (h:zKt sc N [xa,xb] scope=true) (hi:PId X G (.Tuple [.Name xa pa,.Name xb pb] x1 tp) iter it)
  (hb:∀ (C:Addr) (s₂:Shared) (H₂:Hp) (fp:List Addr) (G':Gx),Good (zBl X [xa,xb] scope C s₂ H₂ fp) G' k->PEd (zBl X [xa,xb] scope C s₂ H₂ fp) G' elt f)
  (hs:∀ x,foldedSetIterable iter X.env x=pure x:=by intro _;rfl):PEf X G (.ListComp elt [⟨.Tuple [.Name xa pa,.Name xb pb] x1 tp,iter,[],0⟩] scope pos) (qI it f):=
 zIl ⟨W.calm,W.tb⟩ W.room (zKF hk hsc hN h) (hN ▸ hnd) hi hb hs
end
end L3
namespace L3
open PySem PySem.Spec PyProof.Rows L2
section
variable {prog:Program} {w:World} {A:Around} {E:Value->Shared->Prop} {s:Shared}
end
section
variable {X:Cx} {G:Gx} {fs:Fv} {f:Ev}
unseal PEd PEf PTd PWd PAd PSd dC POd PGd fO PId PSx iY PTs PCd PCf
end
end L3
namespace L3
open PySem PySem.Spec PyProof.Rows L2
unseal PEd PEf PTd PWd PAd PSd dC POd PGd fO PId PSx iY PTs PCd PCf
section
variable {X:Cx} {G:Gx} {f:Ev} {pos:Pos}
section
variable {o:Expr} {k:Nat} {b:Bool} {p1 p2 p3:Pos}
end
section
variable {i fo:Nat} {x y:Str} {ea eb ec ct o0 o1:Expr} {body rest:List Stmt} {a b:Fv} {cmp:Tv} {sr:Sv} {p1 p2 p3 p4 p5 p6 p7 p8 p9 p10 p11 p12 p13 p14 p15 p16:Pos} {k5 k0 k1:Nat}
end
section
variable {i j1 j2 j3:Nat} {x:Str} {tg ec c1 c2 c3 esl ev o:Expr} {b2 b3:List Stmt} {t1 t2 t3:Tv} {sl:Fv} {g:Ev} {p1 p2 p3 p4 p5 p6 p7 p8 p9:Pos}
end
end
end L3
namespace L3
open PySem PySem.Spec PyProof.Rows L2
def Iv (xs:Array Keyed) (i:Nat):Int:=match xs[i]? with
 | some p=>numOf p.2
 | none=>0
theorem zHf {xs ys:Array Keyed} {i j:Nat} (h:xs[i]?=ys[j]?):Iv xs i=Iv ys j:=by unfold Iv;rw [h]
theorem zNl {xs:Array Keyed} {a d:Nat} (ha:a < xs.size) (hd:d<=a) (k:Nat):Iv (bubble xs a d) k=if k=a - d then Iv xs a else if a - d < k/\k<=a then Iv xs (k - 1) else Iv xs k:=by
 have e:=getElem?_bubble ha d hd k
 by_cases c1:k=a - d
 ·rw [if_pos c1] at e ⊢;exact zHf e
 ·rw [if_neg c1] at e ⊢
  by_cases c2:a - d < k/\k<=a
  ·rw [if_pos c2] at e ⊢;exact zHf e
  ·rw [if_neg c2] at e ⊢;exact zHf e
theorem sW {xs:Array Keyed} {a b:Nat} (hb:b<=xs.size) (k:Nat):Iv (mirror xs a b ((b - a) / 2)) k=if a<=k/\k < b then Iv xs (a+b - 1 - k) else Iv xs k:=by
 have e:=getElem?_mirror_all (i:=a) hb k
 by_cases c:a<=k/\k < b
 ·rw [if_pos c] at e ⊢;exact zHf e
 ·rw [if_neg c] at e ⊢;exact zHf e
structure Up (N:Nat) (xs:Array Keyed) (m:Nat):Prop where
 so:∀ i j,i < j->j < m->K xs i < K xs j∨K xs i=K xs j/\Iv xs i < Iv xs j
 lo:∀ i,i < m->Iv xs i < m
 hi:∀ i,m<=i->i < N->Iv xs i=i
theorem Up.le {N m:Nat} {xs:Array Keyed} (u:Up N xs m) {i j:Nat} (h:i<=j) (hj:j < m):K xs i<=K xs j:=by
 by_cases c:i=j
 ·subst c;exact Int.le_refl _
 ·rcases u.so i j (by omega) hj with z | z
  ·exact Int.le_of_lt z
  ·exact Int.le_of_eq z.1
theorem Up.on {N m n:Nat} {xs:Array Keyed} (u:Up N xs m) (hn:n<=N) (hm:m<=n) (s:SortedTo xs n):Up N xs n where
 so i j l hj:=by
  by_cases c:j < m
  ·exact u.so i j l c
  ·have e:=u.hi j (by omega) (by omega)
   have z:=s i j (by omega) hj
   have t:Iv xs i < Iv xs j:=by
    by_cases c2:i < m
    ·have:=u.lo i c2;omega
    ·have:=u.hi i (by omega) (by omega);omega
   rcases Int.lt_or_eq_of_le z with z | z
   ·exact .inl z
   ·exact .inr ⟨z,t⟩
 lo i hi:=by
  by_cases c:i < m
  ·have:=u.lo i c;omega
  ·have:=u.hi i (by omega) (by omega);omega
 hi i h1 h2:=u.hi i (by omega) h2
structure Dw (N:Nat) (xs:Array Keyed) (b:Nat):Prop where
 so:∀ i j,i < j->j < b->K xs j < K xs i∨K xs j=K xs i/\Iv xs j < Iv xs i
 lo:∀ i,i < b->Iv xs i < b
 hi:∀ i,b<=i->i < N->Iv xs i=i
structure Dq (N:Nat) (xs:Array Keyed) (b x:Nat):Prop extends Dw N xs b where
 bx:b < x
 eq:∀ i,b<=i->i < x->K xs i=K xs (x - 1)
 gt:∀ i,i < b->K xs (x - 1) < K xs i
theorem Dq.turn {N:Nat} {xs ys:Array Keyed} {b x:Nat} (d:Dq N xs b x) (hx:x<=N) (hk:∀ i,K ys i=K xs i) (hv:∀ i,Iv ys i=if b<=i/\i < x then Iv xs (b+x - 1 - i) else Iv xs i):Dw N ys x where
 so i j l hj:=by
  rw [hk,hk,hv,hv]
  by_cases c:j < b
  ·rw [if_neg (by omega),if_neg (by omega)];exact d.so i j l c
  ·rw [d.eq j (by omega) hj,if_pos (by omega),d.hi _ (by omega) (by omega)]
   by_cases c2:i < b
   ·exact .inl (d.gt i c2)
   ·rw [d.eq i (by omega) (by omega),if_pos (by omega),d.hi _ (by omega) (by omega)]
    exact .inr ⟨rfl,by omega⟩
 lo i hi:=by
  rw [hv]
  split
  ·rw [d.hi _ (by omega) (by omega)];omega
  ·have:=d.lo i (by omega);have:=d.bx;omega
 hi i h1 h2:=by rw [hv,if_neg (by omega)];exact d.hi i (by have:=d.bx;omega) h2
theorem Dw.next {N:Nat} {xs:Array Keyed} {x:Nat} (d:Dw N xs x) (hx:x < N) (h1:0 < x) (h:∀ i,i < x->K xs x < K xs i):Dq N xs x (x+1) where
 toDw:=d
 bx:=by omega
 eq i a b:=by rw [show i=x+1 - 1 by omega]
 gt i hi:=by rw [show x+1 - 1=x by omega];exact h i hi
section
variable {prog:Program} {w:World} {A:Around} {E:Value->Shared->Prop} {s:Shared} {a₀:Array Keyed}
theorem zGi {st:SortSt} {n r:Nat} {Q:Option Nat->SortSt->Prop} (ik:IntKeys a₀) (hr:r<=a₀.size) (h1:1<=n) (hn:n<=r) (sb:SBase a₀ st) (d:Dw a₀.size (arrOf st) n)
  (h:∀ m st',SBase a₀ st'->1<=m->m<=r->Up a₀.size (arrOf st') m->Q (some m) st'):wpS (model prog w) A E s (tail3 n r) Q st:=by
 unfold tail3
 have sz:n<=(arrOf st).size:=by rw [sb.size];omega
 refine wpS_bind (wpS_reverse ?_)
 have sb2:SBase a₀ (setArr st (mirror (arrOf st) 0 n ((n - 0) / 2))):=sb.setArr (mirror_perm ..)
 have up:Up a₀.size (mirror (arrOf st) 0 n ((n - 0) / 2)) n:=by
  refine ⟨fun i j l hj=>?_,fun i hi=>?_,fun i p q=>?_⟩
  ·rw [K_mirror sz,K_mirror sz,sW sz,sW sz,if_pos (by omega),if_pos (by omega),if_pos (by omega),if_pos (by omega)]
   exact d.so _ _ (by omega) (by omega)
  ·rw [sW sz,if_pos (by omega)];exact d.lo _ (by omega)
  ·rw [sW sz,if_neg (by omega)];exact d.hi i p q
 exact wpS_bind (wpS_ascLoop ik hr h1 hn sb2 (fun i j l hj=>up.le l hj) fun m m1 m2 sm _=>wpS_pure (h m _ sb2 (by omega) m2 (up.on (by omega) m1 sm)))
theorem zKH {st:SortSt} {b n r:Nat} {Q:DescSt->SortSt->Prop} (ik:IntKeys a₀) (hr:r<=a₀.size) (hn:n<=r) (hb:b+1=n) (sb:SBase a₀ st) (d:Dq a₀.size (arrOf st) b n)
  (h:∀ m q st',SBase a₀ st'->m<=r->q < m->Dq a₀.size (arrOf st') (m - (q+1)) m->Q (none,m,q) st'):wpS (model prog w) A E s (descLoop n r) Q st:=by
 unfold descLoop
 refine wpS_forRange (I:=fun x c st'=>∃ q,c=(none,x,q)/\SBase a₀ st'/\q < x/\Dq a₀.size (arrOf st') (x - (q+1)) x) ?step ?fin ⟨0,rfl,sb,by omega,by rw [show n - (0+1)=b by omega];exact d⟩
 case fin=>
  rintro c st' ⟨q,rfl,sb',hq,d'⟩
  rw [show max n r=r by omega] at hq d' ⊢
  exact h r q st' sb' (Nat.le_refl _) hq d'
 case step=>
  rintro x c st' nx xr ⟨q,rfl,sb',hq,d'⟩
  dsimp only
  have sz:x<=(arrOf st').size:=by rw [sb'.size];omega
  refine wpS_bind (wpS_ltK sb' ik (show x < _ by omega) (show x - 1 < _ by omega) ?_)
  by_cases c1:K (arrOf st') x < K (arrOf st') (x - 1)
  ·have all:∀ i,i < x->K (arrOf st') x < K (arrOf st') i:=fun i hi=>by
    by_cases c2:i < x - (q+1)
    ·exact Int.lt_trans c1 (d'.gt i c2)
    ·rw [d'.eq i (by omega) hi];exact c1
   rw [decide_eq_true c1]
   dsimp only
   rw [if_pos rfl]
   by_cases c3:q > 0
   ·rw [if_pos c3]
    have kk:=K_mirror_equal (i:=x - (q+1)) sz (fun k p1 p2=>d'.eq k p1 p2)
    refine wpS_bind (wpS_reverse (wpS_pure ⟨0,rfl,sb'.setArr (mirror_perm ..),by omega,?_⟩))
    have dw:Dw a₀.size (mirror (arrOf st') (x - (q+1)) x ((x - (x - (q+1))) / 2)) x:=d'.turn (by omega) kk (sW sz)
    exact dw.next (by omega) (by omega) fun i hi=>by rw [kk,kk];exact all i hi
   ·rw [if_neg c3]
    have q0:q=0:=by omega
    subst q0
    have dw:Dw a₀.size (arrOf st') x:=d'.turn (by omega) (fun _=>rfl) fun i=>by
     split
     ·rw [show x - (0+1)+x - 1 - i=i by omega]
     ·rfl
    exact wpS_pure ⟨0,rfl,sb',by omega,dw.next (by omega) (by omega) all⟩
  ·rw [decide_eq_false c1]
   dsimp only
   rw [if_neg (by decide)]
   refine wpS_bind (wpS_ltK sb' ik (show x - 1 < _ by omega) (show x < _ by omega) ?_)
   by_cases c4:K (arrOf st') (x - 1) < K (arrOf st') x
   ·rw [decide_eq_true c4]
    dsimp only
    rw [if_pos rfl]
    exact wpS_pure (h x q st' sb' (by omega) hq d')
   ·rw [decide_eq_false c4]
    dsimp only
    rw [if_neg (by decide)]
    have ee:K (arrOf st') x=K (arrOf st') (x - 1):=by omega
    refine wpS_pure ⟨q+1,rfl,sb',by omega,?_⟩
    rw [show x+1 - (q+1+1)=x - (q+1) by omega]
    refine ⟨d'.toDw,by omega,fun i p1 p2=>?_,fun i p1=>?_⟩
    ·rw [show x+1 - 1=x by omega]
     by_cases c5:i=x
     ·rw [c5]
     ·rw [ee];exact d'.eq i p1 (by omega)
    ·rw [show x+1 - 1=x by omega,ee];exact d'.gt i p1
theorem zGC {st:SortSt} {n r:Nat} {Q:Option Nat->SortSt->Prop} (ik:IntKeys a₀) (hr:r<=a₀.size) (hn:n+1<=r) (sb:SBase a₀ st) (d:Dq a₀.size (arrOf st) n (n+1))
  (h:∀ m st',SBase a₀ st'->1<=m->m<=r->Up a₀.size (arrOf st') m->Q (some m) st'):wpS (model prog w) A E s (descPart n r) Q st:=by
 unfold descPart
 refine wpS_bind (wpS_lift (wpAny_rule ⟨rfl,?_⟩))
 refine wpS_bind (zKH ik hr hn rfl sb d fun m q st' sb' mr hq d'=>?_)
 dsimp only
 have sz:m<=(arrOf st').size:=by rw [sb'.size];omega
 by_cases c:q > 0
 ·rw [if_pos c]
  exact wpS_bind (wpS_reverse (zGi ik hr (by omega) mr (sb'.setArr (mirror_perm ..)) (d'.turn (by omega) (K_mirror_equal sz fun k p1 p2=>d'.eq k p1 p2) (sW sz)) h))
 ·rw [if_neg c]
  have q0:q=0:=by omega
  subst q0
  refine zGi ik hr (by omega) mr sb' (d'.turn (by omega) (fun _=>rfl) fun i=>?_) h
  split
  ·rw [show m - (0+1)+m - 1 - i=i by omega]
  ·rfl
theorem zMs {st:SortSt} {r:Nat} {Q:Option Nat->SortSt->Prop} (ik:IntKeys a₀) (hr:r<=a₀.size) (h1:1<=r) (sb:SBase a₀ st) (h0:∀ i,i < a₀.size->Iv (arrOf st) i=i)
  (h:∀ m st',SBase a₀ st'->1<=m->m<=r->Up a₀.size (arrOf st') m->Q (some m) st'):wpS (model prog w) A E s (countRun' 0 r) Q st:=by
 have u1:Up a₀.size (arrOf st) 1:=⟨fun i j l hj=>by omega,fun i hi=>by have:=h0 i (by omega);omega,fun i _ z=>h0 i z⟩
 rw [countRun0_eq]
 refine wpS_bind (wpS_ascLoop ik hr (Nat.le_refl 1) h1 sb (fun i j l hj=>u1.le l hj) fun n n1 n2 sn no=>?_)
 have un:=u1.on (show n<=_ by omega) n1 sn
 dsimp only
 by_cases c:n=r
 ·rw [if_pos (by simpa using c)]
  exact wpS_pure (h n st sb n1 n2 un)
 ·rw [if_neg (by simpa using c)]
  have fl:K (arrOf st) n < K (arrOf st) (n - 1):=no.resolve_left c
  by_cases c2:n > 1
  ·rw [if_pos c2]
   refine wpS_bind (wpS_ltK sb ik (show 0 < _ by omega) (show n - 1 < _ by omega) ?_)
   by_cases c3:K (arrOf st) 0 < K (arrOf st) (n - 1)
   ·rw [decide_eq_true c3]
    dsimp only
    rw [if_pos rfl]
    exact wpS_pure (h n st sb n1 n2 un)
   ·rw [decide_eq_false c3]
    dsimp only
    rw [if_neg (by decide)]
    have sz:n<=(arrOf st).size:=by rw [sb.size];omega
    have al:∀ k,0<=k->k < n->K (arrOf st) k=K (arrOf st) (n - 1):=fun k _ hk=>by
     have p1:=sn 0 k (by omega) hk
     have p2:=sn k (n - 1) (by omega) (by omega)
     omega
    have kk:=K_mirror_equal (i:=0) sz al
    have dq:Dq a₀.size (arrOf st) 0 n:=⟨⟨fun i j l hj=>by omega,fun i hi=>by omega,fun i _ z=>h0 i z⟩,by omega,fun i p1 p2=>al i p1 p2,fun i hi=>by omega⟩
    have dw:Dw a₀.size (mirror (arrOf st) 0 n ((n - 0) / 2)) n:=dq.turn (by omega) kk (sW sz)
    refine wpS_bind (wpS_reverse (zGC ik hr (by omega) (sb.setArr (mirror_perm ..)) (dw.next (by omega) (by omega) fun i hi=>?_) h))
    rw [kk,kk,al i (by omega) hi];exact fl
  ·rw [if_neg c2]
   have n0:n=1:=by omega
   subst n0
   have dw:Dw a₀.size (arrOf st) 1:=⟨fun i j l hj=>by omega,fun i hi=>by have:=h0 i (by omega);omega,fun i _ z=>h0 i z⟩
   refine zGC ik hr (by omega) sb (dw.next (by omega) (by omega) fun i hi=>?_) h
   rw [show i=1 - 1 by omega];exact fl
theorem zMp {st:SortSt} {n m:Nat} {Q:Bool->SortSt->Prop} (ik:IntKeys a₀) (hn:n<=a₀.size) (h1:1<=m) (hm:m<=n) (sb:SBase a₀ st) (u:Up a₀.size (arrOf st) m)
  (h:∀ st',SBase a₀ st'->Up a₀.size (arrOf st') n->Q true st'):wpS (model prog w) A E s (binarySort' 0 n m) Q st:=by
 rw [binarySort'_eq]
 simp only [Nat.zero_add]
 refine wpS_bind (wpS_mono (wpS_forRange (I:=fun k c st'=>c=(none,())/\SBase a₀ st'/\Up a₀.size (arrOf st') (min k n)) (Q:=fun c st'=>c=(none,())/\SBase a₀ st'/\Up a₀.size (arrOf st') n) ?step ?fin ⟨rfl,sb,by rw [show min (max m 1) n=m by omega];exact u⟩) ?post)
 case post=>
  rintro c st' ⟨rfl,sb',u'⟩
  exact wpS_pure (h st' sb' u')
 case fin=>
  rintro c st' ⟨hc,sb',u'⟩
  rw [show min (max (max m 1) n) n=n by omega] at u'
  exact ⟨hc,sb',u'⟩
 case step=>
  rintro k c st' mk kn ⟨rfl,sb',u'⟩
  rw [show min k n=k by omega] at u'
  have ka:k < a₀.size:=by omega
  refine wpS_bind (wpS_mono (wpS_forRange
   (I:=fun x c st2=>st2=st'/\∃ l r,c=(none,l,r)/\l<=r/\r<=k/\r - l<=k - x/\(∀ i,i < l->K (arrOf st') i<=K (arrOf st') k)/\∀ i,r<=i->i < k->K (arrOf st') k < K (arrOf st') i)
   (Q:=fun c st2=>st2=st'/\∃ l r,c=(none,l,r)/\l<=k/\(∀ i,i < l->K (arrOf st') i<=K (arrOf st') k)/\∀ i,l<=i->i < k->K (arrOf st') k < K (arrOf st') i) ?js ?jf ?ji) ?jp)
  case ji=>exact ⟨rfl,0,k,rfl,by omega,by omega,by omega,fun i z=>by omega,fun i y z=>by omega⟩
  case jf=>
   rintro c st2 ⟨rfl,l,r,rfl,lr,rk,lx,f1,f2⟩
   have:l=r:=by omega
   subst this
   exact ⟨rfl,l,l,rfl,rk,f1,f2⟩
  case js=>
   rintro x c st2 _ xk ⟨rfl,l,r,rfl,lr,rk,lx,f1,f2⟩
   dsimp only
   by_cases c1:l ≥ r
   ·rw [if_pos c1]
    have:l=r:=by omega
    subst this
    exact wpS_pure ⟨rfl,l,l,rfl,rk,f1,f2⟩
   ·rw [if_neg c1]
    refine wpS_bind (wpS_ltK sb' ik ka (show (l+r) / 2 < _ by omega) ?_)
    by_cases c2:K (arrOf st2) k < K (arrOf st2) ((l+r) / 2)
    ·rw [decide_eq_true c2]
     dsimp only
     rw [if_pos rfl]
     exact wpS_pure ⟨rfl,l,(l+r) / 2,rfl,by omega,by omega,by omega,f1,fun i y z=>Int.lt_of_lt_of_le c2 (u'.le y z)⟩
    ·rw [decide_eq_false c2]
     dsimp only
     rw [if_neg (by decide)]
     exact wpS_pure ⟨rfl,(l+r) / 2+1,r,rfl,by omega,by omega,by omega,fun i y=>Int.le_trans (u'.le (show i<=(l+r) / 2 by omega) (by omega)) (Int.not_lt.mp c2),f2⟩
  case jp=>
   rintro c st2 ⟨rfl,l,r,rfl,lk,f1,f2⟩
   show wpS _ _ _ _ (do moveDown' k l;pure (ForInStep.yield (none,()))) _ _
   rw [moveDown'_eq]
   refine wpS_bind (wpS_modify (wpS_pure ⟨rfl,sb'.setArr (bubble_perm ..),?_⟩))
   rw [show min (k+1) n=k+1 by omega]
   have sz:k < (arrOf st2).size:=by rw [sb'.size];exact ka
   have ik2:=u'.hi k (Nat.le_refl _) ka
   show Up a₀.size (bubble (arrOf st2) k (k - l)) (k+1)
   have kb:=fun i=>K_bubble sz (show k - l<=k by omega) i
   have vb:=fun i=>zNl sz (show k - l<=k by omega) i
   rw [show k - (k - l)=l by omega] at kb vb
   refine ⟨fun i j ij jk=>?_,fun i z=>?_,fun i y z=>?_⟩
   ·rw [kb,kb,vb,vb]
    by_cases e1:i=l
    ·rw [if_pos e1,if_neg (show j≠l by omega),if_pos (show l < j/\j<=k by omega),if_pos e1]
     exact .inl (f2 _ (by omega) (by omega))
    ·by_cases e2:j=l
     ·rw [if_neg e1,if_neg (show ¬ (l < i/\i<=k) by omega),if_pos e2,if_neg e1,if_neg (show ¬ (l < i/\i<=k) by omega),if_pos e2]
      have t:=u'.lo i (by omega)
      rcases Int.lt_or_eq_of_le (f1 i (by omega)) with z | z
      ·exact .inl z
      ·exact .inr ⟨z,by omega⟩
     ·rw [if_neg e1,if_neg e2,if_neg e1,if_neg e2]
      by_cases g1:l < i/\i<=k
      ·rw [if_pos g1,if_pos g1,if_pos (show l < j/\j<=k by omega),if_pos (show l < j/\j<=k by omega)]
       exact u'.so _ _ (by omega) (by omega)
      ·rw [if_neg g1,if_neg g1]
       by_cases g2:l < j/\j<=k
       ·rw [if_pos g2,if_pos g2];exact u'.so _ _ (by omega) (by omega)
       ·rw [if_neg g2,if_neg g2];exact u'.so _ _ ij (by omega)
   ·rw [vb]
    split
    ·omega
    ·split
     ·have:=u'.lo (i - 1) (by omega);omega
     ·have:=u'.lo i (by omega);omega
   ·rw [vb,if_neg (by omega),if_neg (by omega)];exact u'.hi i (by omega) z
theorem zJV {st:SortSt} {Q:Unit->SortSt->Prop} (ik:IntKeys a₀) (sb:SBase a₀ st) (h2:2<=a₀.size) (h64:a₀.size < 64) (h0:∀ i,i < a₀.size->Iv (arrOf st) i=i)
  (h:∀ st',(arrOf st').Perm a₀->failedOf st'=none->Up a₀.size (arrOf st') a₀.size->Q () st'):wpS (model prog w) A E s sortRuns' Q st:=by
 rw [sortRuns'_eq]
 refine wpS_bind (wpS_get ?_)
 dsimp only
 have mr:minRun' a₀.size a₀.size 0=a₀.size:=by
  obtain ⟨f,hf⟩:∃ f,a₀.size=f+1:=⟨a₀.size - 1,by omega⟩
  have z:minRun' (f+1) a₀.size 0=a₀.size:=by rw [minRun'_succ,if_pos h64,Nat.add_zero]
  rw [<-hf] at z;exact z
 have fin:∀ st':SortSt,SBase a₀ st'->Up a₀.size (arrOf st') a₀.size->(fun st=>(arrOf st).Perm a₀/\failedOf st=none/\pendingOf st=#[(0,a₀.size,0)]/\Up a₀.size (arrOf st) a₀.size) (setPending st' ((pendingOf st').push (0,a₀.size,0))):=fun st' b u=>
  ⟨b.perm,b.failed,by show (pendingOf st').push _=_;rw [b.pend];rfl,u⟩
 simp only [sb.size,mr]
 refine wpS_bind (wpS_mono (wpS_forRange
  (I:=fun x c st'=>(x=0/\c=(none,0)/\st'=st)∨(1<=x/\c=(none,a₀.size)/\(arrOf st').Perm a₀/\failedOf st'=none/\pendingOf st'=#[(0,a₀.size,0)]/\Up a₀.size (arrOf st') a₀.size))
  (Q:=fun c st'=>c=(none,a₀.size)/\(arrOf st').Perm a₀/\failedOf st'=none/\pendingOf st'=#[(0,a₀.size,0)]/\Up a₀.size (arrOf st') a₀.size) ?step ?fin (.inl ⟨rfl,rfl,rfl⟩)) ?post)
 case fin=>
  rintro c st' (⟨z,_,_⟩ | ⟨_,r⟩)
  ·omega
  ·exact r
 case step=>
  rintro x c st' _ hx (⟨rfl,rfl,rfl⟩ | ⟨_,rfl,r⟩)
  ·dsimp only
   rw [if_neg (by omega)]
   simp only [Nat.sub_zero,Nat.min_self,Nat.zero_add]
   refine wpS_bind (zMs ik (Nat.le_refl _) (by omega) sb h0 fun m st2 sb2 m1 m2 u2=>?_)
   dsimp only
   by_cases c:m < a₀.size
   ·rw [if_pos c]
    refine wpS_bind (wpS_lift (wpAny_rule ⟨rfl,?_⟩))
    refine wpS_bind (zMp ik (Nat.le_refl _) m1 m2 sb2 u2 fun st3 sb3 u3=>?_)
    rw [Bool.not_true,if_neg Bool.false_ne_true]
    refine wpS_bind (wpS_get ?_)
    rw [show (pendingOf st3).back?=none by rw [sb3.pend];rfl]
    dsimp only
    exact wpS_bind (wpS_modify (wpS_pure (.inr ⟨by omega,rfl,fin st3 sb3 u3⟩)))
   ·rw [if_neg c]
    have mm:m=a₀.size:=by omega
    subst mm
    refine wpS_bind (wpS_get ?_)
    rw [show (pendingOf st2).back?=none by rw [sb2.pend];rfl]
    dsimp only
    exact wpS_bind (wpS_modify (wpS_pure (.inr ⟨by omega,rfl,fin st2 sb2 u2⟩)))
  ·dsimp only
   rw [if_pos (Nat.le_refl _)]
   exact wpS_pure ⟨rfl,r⟩
 case post=>
  rintro c st' ⟨rfl,p1,p2,p3,p4⟩
  dsimp only
  refine wpS_bind (wpS_mono (wpS_forRange (I:=fun _ c st2=>st2=st'/\c=(none,())) (Q:=fun c st2=>st2=st'/\c=(none,())) ?_ (fun _ _ z=>z) ⟨rfl,rfl⟩) ?_)
  ·rintro x c st2 _ _ ⟨rfl,rfl⟩
   refine wpS_bind (wpS_get ?_)
   rw [if_pos (by rw [p3];exact Nat.le_refl 1)]
   exact wpS_pure ⟨rfl,rfl⟩
  ·rintro c st2 ⟨rfl,rfl⟩
   exact wpS_pure (h _ p1 p2 p4)
end
end L3
namespace L3
open PySem PySem.Spec PyProof.Rows L2
unseal PEd PEf PTd PWd PAd PSd dC POd PGd fO PId PSx iY PTs PCd PCf
section
variable {prog:Program} {w:World} {A:Around} {E:Value->Shared->Prop} {s:Shared}
theorem xC {r:Addr} {a b c:Int} {t u v:Tok} {n:Nat} {R:List Value->Shared->Prop} (hh:A.handled=none) (hr:IsRange s.heap r a b c t u v) (hsmall:Builtin.Range.small a b c=true) (hn:Builtin.Range.rangeSize a b c=n) (hlen:n<=2^24)
  (h:∀ h' tk acc,(∀ b o,s.heap.get? b=some o->h'.get? b=some o)->s.heap.objs.size<=h'.objs.size->ItemsOf (fun i v=>∃ t,v=.int (a+i * c) t) acc n->R acc.toList { s with heap:=h',toks:=tk }):
  wpAny (model prog w) A (collect (.ref r)) R E s:=by
 unfold collect
 refine wpAny_bind (wpAny_runValue (codeAny_builtin entry_proto_collect' ?_))
 rw [Around.under_plainId PySem.F.plain_proto_collect _]
 show wpAny _ A.in1 (newList [] >>= fun l=>again (.builtin "list.__iadd__" ⟨[l,.ref r],[]⟩)) _ _ s
 refine wpAny_bind (wpAny_newObj_type ?_)
 refine wpAny_pure ⟨plainId_quiet PySem.F.plain_list_iadd _,codeAny_builtin entry_list_iadd' ?_⟩
 rw [Around.under_plainId PySem.F.plain_list_iadd _]
 have hS₁:(s.heap.push { cls:=.type "list", data:=.seq ([]:List Value).toArray }).get? s.heap.objs.size=some { cls:=.type "list", data:=.seq #[] }:=Heap.get?_push_size _ rfl
 show wpAny _ A.in1 (Builtin.List.listExtendWith (.ref s.heap.objs.size) (.ref r) (.ref s.heap.objs.size)) _ _ _
 have key:=wpAny_extend_range (prog:=prog) (w:=w) (A:=A) (s:={ s with heap:=s.heap.push { cls:=.type "list", data:=.seq ([]:List Value).toArray } })
  (R:=fun (q:Result) (s':Shared)=>∃ (h':Heap) (tk:Nat) (acc':Array Value) (c':Nat),q=.ok (.ret (.ref s.heap.objs.size))/\s'={ s with heap:=h',toks:=tk }/\
   (∀ b o,s.heap.get? b=some o->h'.get? b=some o)/\h'.get? s.heap.objs.size=some { cls:=.type "list", dict:=none,data:=.seq acc' c',slots:=#[] }/\ItemsOf (fun i v=>∃ t,v=.int (a+i * c) t) acc' n)
  hh (Heap.get?_push_of_some _ hr) hsmall hn hlen s.heap.objs.size (.ref s.heap.objs.size) 0 hS₁
  (fun h' tk acc' c' hk hS' hacc=>⟨h',tk,acc',c',rfl,rfl,fun b o e=>hk b o (Nat.ne_of_lt (Heap.lt_size e)) (Heap.get?_push_of_some _ e),hS',hacc⟩)
 refine wpAny_mono key (fun fin s' x=>?_) fun e s' x=>?_
 ·cases fin with
  | done f=>
   obtain ⟨h',tk,acc',c',e,rfl,hk,hS',hacc⟩:=x
   cases e
   show wpAny _ A (load s.heap.objs.size >>= _) _ _ _
   refine wpAny_bind (wpAny_load hS' ?_)
   exact wpAny_pure (h h' tk acc' hk (Nat.le_of_lt (Heap.lt_size hS')) hacc)
  | again c₁=>
   refine ⟨x.1,codeAny_mono x.2 fun q s₂ y=>?_⟩
   obtain ⟨h',tk,acc',c',rfl,rfl,hk,hS',hacc⟩:=y
   show wpAny _ A (load s.heap.objs.size >>= _) _ _ _
   refine wpAny_bind (wpAny_load hS' ?_)
   exact wpAny_pure (h h' tk acc' hk (Nat.le_of_lt (Heap.lt_size hS')) hacc)
 ·obtain ⟨_,_,_,_,e',_⟩:=x
  cases e'
end
section
variable {X:Cx} {pins:List (Addr×Obj)} {σ:St} {H:Hp} {s:Shared} {A:Around} {E:Value->Shared->Prop} {a kS:Addr} {vs:List Value} {kz:List Int} {keys:Array Value} {e e1:Nat} {P:PySem.Fin->Shared->Prop}
theorem oB {h':Heap} {tk:Nat} (f:qO X pins H a) (I:Inv X pins σ H s) (sb:Heap.SameBut a s.heap h'):Inv X pins σ H { s with heap:=h',toks:=tk }:=by
 obtain ⟨f0,f1,f2,f3,f4,f5⟩:=f
 exact I.turned (fun b o hb e=>(sb.2 b hb).trans e) f0 f1 f3 f4 f5
def KsS (kz:List Int) (vs out:List Value):Prop:=∃ ps:List (Int×Value),ps.Perm (kz.zip vs)/\out=ps.map Prod.snd/\ps.Pairwise fun p q=>p.1 < q.1∨p.1=q.1/\numOf p.2 < numOf q.2
theorem zLt {xs:Array Keyed} {n:Nat} (hk:IntsAre keys.toList kz) (hp:xs.Perm (keys.zip vs.toArray)) (up:Up n xs xs.size):KsS kz vs (xs.map (·.2)).toList:=by
 have hl:xs.toList.Perm (keys.toList.zip vs):=by
  have z:=Array.perm_iff_toList_perm.mp hp
  rwa [Array.toList_zip,List.toList_toArray] at z
 refine ⟨xs.toList.map fun p=>(numOf p.1,p.2),?_,?_,?_⟩
 ·have z:=hl.map (fun p=>(numOf p.1,p.2))
  rw [<-hk.nums,List.zip_map_left]
  exact z
 ·rw [Array.toList_map,List.map_map];rfl
 ·rw [List.pairwise_map,List.pairwise_iff_getElem]
  intro i j hi hj hij
  rw [Array.length_toList] at hi hj
  have z:=up.so i j hij hj
  rw [K_eq hi,K_eq hj] at z
  have iv:∀ k (h:k < xs.size),Iv xs k=numOf xs[k].2:=fun k h=>by unfold Iv;rw [getElem?_pos xs k h]
  rw [iv i hi,iv j hj] at z
  exact z
theorem zIN (hsz:keys.size=vs.length) (hv:∀ (j:Nat) (v:Value),vs[j]?=some v->∃ t,v=.int j t) (i:Nat) (hi:i < (keys.zip vs.toArray).size):Iv (keys.zip vs.toArray) i=i:=by
 have h2:i < vs.length:=by rw [Array.size_zip,hsz,List.size_toArray,Nat.min_self] at hi;exact hi
 obtain ⟨t,ht⟩:=hv i _ (List.getElem?_eq_getElem h2)
 unfold Iv
 rw [getElem?_pos _ i hi]
 show numOf ((keys.zip vs.toArray)[i]).2=_
 rw [Array.getElem_zip]
 show numOf (vs.toArray[i])=_
 rw [List.getElem_toArray,ht]
 rfl
theorem zEF {st:SortSt} (I:Inv X pins σ H s) (fa:qO X pins H a) (fk:qO X pins H kS) (hka:kS≠a) (nk:s.heap.get? kS=some (seqObj "list" keys e)) (na:s.heap.get? a=some (seqObj "list" #[] e1))
  (hk:IntsAre keys.toList kz) (hlen:kz.length=vs.length) (h64:vs.length < 64) (hp:(arrOf st).Perm (keys.zip vs.toArray)) {n:Nat} (hs:Up n (arrOf st) (arrOf st).size) (hfl:failedOf st=none)
  (h:∀ s' out c,Inv X pins σ H s'->s'.heap.get? a=some (seqObj "list" out c)->KsS kz vs out.toList->P (.done (.ret .none)) s'):
  wpAny (model X.prog X.w) A (ksk_tail a false e1 (.ref kS) st) P E s:=by
 have hsz:keys.size=vs.length:=by
  have h1:=hk.length
  rw [Array.length_toList] at h1
  omega
 have hsz2:(arrOf st).size=vs.length:=by rw [hp.size_eq,Array.size_zip,hsz,List.size_toArray,Nat.min_self]
 have hout:((arrOf st).map (·.2)).size=vs.length:=by rw [Array.size_map];exact hsz2
 have s1:=Heap.SameBut.update s.heap kS (Obj.mapSeq fun _=>(#[]:Array Value))
 have na1:(s.heap.update kS (Obj.mapSeq fun _=>(#[]:Array Value))).get? a=some (seqObj "list" #[] e1):=(s1.2 a hka.symm).trans na
 have s2:=Heap.SameBut.update (s.heap.update kS (Obj.mapSeq fun _=>(#[]:Array Value))) a (Obj.mapSeq fun _=>(arrOf st).map (·.2))
 obtain ⟨c2,hc2⟩:∃ c2,((s.heap.update kS (Obj.mapSeq fun _=>(#[]:Array Value))).update a (Obj.mapSeq fun _=>(arrOf st).map (·.2))).get? a=some (seqObj "list" ((arrOf st).map (·.2)) c2):=
  ⟨_,get?_update_seq na1 fun _=>(arrOf st).map (·.2)⟩
 unfold ksk_tail
 try dsimp only
 refine wpAny_bind (listUpdate_at nk rfl ?_ (by rw [hsz,sizeLine_eq];omega) (Nat.zero_le _))
 refine wpAny_bind (wpAny_letGo ?_)
 refine wpAny_bind (seqEpoch_at na1 rfl ?_)
 refine wpAny_bind (listUpdate_at na1 rfl ?_ (Nat.zero_le _) (by simp only [Bool.false_eq_true,if_false];exact Nat.le_trans (Nat.le_of_eq hout) (by rw [sizeLine_eq];omega)))
 rw [hfl]
 simp only [bne_self_eq_false,Bool.false_eq_true,if_false]
 have I1:Inv X pins σ H { s with heap:=s.heap.update kS (Obj.mapSeq fun _=>(#[]:Array Value)) }:=oB fk (tk:=s.toks) I s1
 have I2:Inv X pins σ H { s with heap:=(s.heap.update kS (Obj.mapSeq fun _=>(#[]:Array Value))).update a (Obj.mapSeq fun _=>(arrOf st).map (·.2)) }:=(by have z:=oB (tk:=s.toks) fa I1 s2;exact z)
 exact wpAny_pure (h _ _ c2 I2 hc2 (zLt hk hp hs))
theorem zNy (I:Inv X pins σ H s) (fa:qO X pins H a) (fk:qO X pins H kS) (hka:kS≠a) (nk:s.heap.get? kS=some (seqObj "list" keys e)) (na:s.heap.get? a=some (seqObj "list" #[] e1))
  (hk:IntsAre keys.toList kz) (hlen:kz.length=vs.length) (h64:vs.length < 64)
  (hv:∀ (j:Nat) (v:Value),vs[j]?=some v->∃ t,v=.int j t)
  (h:∀ s' out c,Inv X pins σ H s'->s'.heap.get? a=some (seqObj "list" out c)->KsS kz vs out.toList->P (.done (.ret .none)) s'):
  wpAny (model X.prog X.w) A (ksk_end a false vs.toArray e1 (.ref kS) keys) P E s:=by
 have hsz:keys.size=vs.length:=by
  have h1:=hk.length
  rw [Array.length_toList] at h1
  omega
 have hzs:(keys.zip vs.toArray).size=vs.length:=by rw [Array.size_zip,hsz,List.size_toArray,Nat.min_self]
 unfold ksk_end
 try dsimp only
 simp only [Bool.false_eq_true,if_false]
 by_cases h2:vs.toArray.size < 2
 ·rw [if_pos h2,if_pos h2]
  refine wpAny_bind (wpAny_pure ?_)
  rw [StateT.run_pure]
  refine wpAny_bind (wpAny_pure ?_)
  try dsimp only
  rw [List.size_toArray] at h2
  refine zEF (st:=SortSt.mk' general' (keys.zip vs.toArray) #[] 7 none) (n:=0) I fa fk hka nk na hk hlen h64 (Array.Perm.refl _) ⟨fun i j l hj=>?_,fun i hi=>?_,fun i _ z=>by omega⟩ rfl h
  ·have hj2:j < (keys.zip vs.toArray).size:=hj
   rw [hzs] at hj2
   omega
  ·have z:=zIN hsz hv i hi
   show Iv (keys.zip vs.toArray) i < _
   rw [z]
   exact_mod_cast hi
 ·rw [if_neg h2,if_neg h2]
  rw [List.size_toArray] at h2
  rw [ksk_kind hk (by rw [hsz];omega)]
  refine wpAny_bind (wpAny_pure ?_)
  refine wpAny_bind (wpAny_mono (zJV (a₀:=keys.zip vs.toArray) (st:=SortSt.mk' oneType' (keys.zip vs.toArray) #[] 7 none)
   (Q:=fun _ st'=>(arrOf st').Perm (keys.zip vs.toArray)/\failedOf st'=none/\Up (keys.zip vs.toArray).size (arrOf st') (keys.zip vs.toArray).size)
   (ksk_intKeys hk) ⟨Array.Perm.refl _,rfl,rfl,rfl⟩ (by rw [hzs];omega) (by rw [hzs];exact h64) (zIN hsz hv) fun st' a1 a2 a3=>⟨a1,a2,a3⟩) ?_ fun _ _ e=>e)
  rintro ⟨⟨⟩,st'⟩ s' ⟨rfl,hp,hf,hs⟩
  try dsimp only
  exact zEF (n:=(keys.zip vs.toArray).size) I fa fk hka nk na hk hlen h64 hp (by rw [hp.size_eq];exact hs) hf h
theorem zKQ {f:Value} {e0:Nat} (I:Inv X pins σ H s) (fa:qO X pins H a) (fk:qO X pins H kS) (hka:kS≠a) (nk:s.heap.get? kS=some (seqObj "list" #[] e0)) (na:s.heap.get? a=some (seqObj "list" #[] e1))
  (hlen:kz.length=vs.length) (h64:vs.length < 64)
  (hv:∀ (j:Nat) (v:Value),vs[j]?=some v->∃ t,v=.int j t)
  (turn:∀ (i:Nat) (v:Value) (k:Int),vs[i]?=some v->kz[i]?=some k->∀ (s':Shared) (pl:List (Addr×Obj)),Inv X (pins++pl) σ H s'->
   wpAny (model X.prog X.w) A (call f [v]) (fun u s''=>(∃ t,u=.int k t)/\Inv X (pins++pl) σ H s'') (fun _ _=>False) s')
  (h:∀ s' out c,Inv X pins σ H s'->s'.heap.get? a=some (seqObj "list" out c)->KsS kz vs out.toList->P (.done (.ret .none)) s'):
  wpAny (model X.prog X.w) A (ksk_rest a f false vs.toArray e1 (.ref kS)) P E s:=by
 unfold ksk_rest
 refine wpAny_bind (wpAny_rule ?_)
 first
  | rw [List.forIn_toArray]
  | (rw [<-Array.forIn_toList];simp only [List.toList_toArray])
  | rw [<-Array.forIn_toList]
 refine wpAny_bind (ksk_fold (fun i s'=>∃ kA e,Inv X pins σ H s'/\s'.heap.get? kS=some (seqObj "list" kA e)/\s'.heap.get? a=some (seqObj "list" #[] e1)/\IntsAre kA.toList (kz.take i)) vs 0 s
  ⟨#[],e0,I,nk,na,by simpa using IntsAre.nil⟩ ?step ?done)
 case step=>
  rintro j x s' hx ⟨kA,e,I',nk',na',hk⟩
  simp only [Nat.zero_add] at hk ⊢
  have hj:j < vs.length:=(List.getElem?_eq_some_iff.mp hx).1
  obtain ⟨k,hkj⟩:∃ k,kz[j]?=some k:=⟨_,List.getElem?_eq_getElem (by omega)⟩
  have hz:kA.size<=vs.length:=by
   have h1:=hk.length
   rw [Array.length_toList,List.length_take] at h1
   omega
  have pin:∀ b∈[kS,a],∃ o,s'.heap.get? b=some o/\∀ v,o.data≠.cell v:=fun b hb=>by
   rcases List.mem_cons.mp hb with rfl | hb
   ·exact ⟨_,nk',fun v z=>by have z':Data.seq _ _=Data.cell v:=z;cases z'⟩
   ·rw [List.mem_singleton.mp hb];exact ⟨_,na',fun v z=>by have z':Data.seq _ _=Data.cell v:=z;cases z'⟩
  have Ip:Inv X (pins++tJ [kS,a] s'.heap) σ H s':=I'.pinned (fun b hb=>by
   rcases List.mem_cons.mp hb with rfl | hb
   ·exact fk
   ·rw [List.mem_singleton.mp hb];exact fa) pin
  refine wpAny_bind (wpAny_attempt (wpAny_mono (turn j x k hx hkj s' _ Ip) (fun v s'' he=>?_) fun _ _ hF=>hF.elim))
  obtain ⟨⟨t2,rfl⟩,I2p⟩:=he
  try dsimp only
  have nk2:s''.heap.get? kS=some (seqObj "list" kA e):=(I2p.pin _ (List.mem_append_right _ (List.mem_append_right _ (eM (b:=kS) (by simp) nk')))).1
  have na2:s''.heap.get? a=some (seqObj "list" #[] e1):=(I2p.pin _ (List.mem_append_right _ (List.mem_append_right _ (eM (b:=a) (by simp) na')))).1
  have I2:Inv X pins σ H s'':=I2p.unpinned
  have s1:=Heap.SameBut.update s''.heap kS (Obj.mapSeq (·.push (.int k t2)))
  obtain ⟨c2,hc2⟩:∃ c2,(s''.heap.update kS (Obj.mapSeq (·.push (.int k t2)))).get? kS=some (seqObj "list" (kA.push (.int k t2)) c2):=⟨_,get?_update_seq nk2 (·.push (.int k t2))⟩
  have ek:kz.take (j+1)=kz.take j++[k]:=by rw [List.take_add_one,hkj];simp
  have ea:(kA.push (Value.int k t2)).toList=kA.toList++[Value.int k t2]:=by simp
  refine wpAny_bind (listUpdate_at nk2 rfl ?_ (by rw [sizeLine_eq];omega) (Nat.le_trans (Nat.le_of_eq (Array.size_push ..)) (by rw [sizeLine_eq];omega)))
  exact wpAny_pure ⟨rfl,kA.push (.int k t2),c2,oB fk (tk:=s''.toks) I2 s1,hc2,(s1.2 a hka.symm).trans na2,by rw [ea,ek];exact ksk_snoc hk⟩
 case done=>
  rintro s' ⟨kA,e,I',nk',na',hk⟩
  have hk':IntsAre kA.toList kz:=by
   have e3:kz.take (0+vs.length)=kz:=List.take_of_length_le (by omega)
   rw [e3] at hk
   exact hk
  try dsimp only
  refine wpAny_bind (listItems_at nk' rfl ?_)
  exact zNy I' fa fk hka nk' na' hk' hlen h64 hv h
def nG (v:Value):Nat:=(numOf v).toNat
theorem zLl {out:List Value} (hlen:kz.length=vs.length) (hv:∀ (j:Nat) (v:Value),vs[j]?=some v->∃ t,v=.int j t) (h:KsS kz vs out):fF kz (out.map nG)/\cX ((out.map nG).map fun i:Nat=>V.int (i:Int)) out:=by
 obtain ⟨ps,hp,ho,hs⟩:=h
 have at':∀ p,p∈kz.zip vs->∃ (j:Nat) (t:Tok),p.2=.int j t/\kz[j]?=some p.1:=fun p hm=>by
  obtain ⟨j,hj,e⟩:=List.mem_iff_getElem.mp hm
  rw [List.length_zip] at hj
  rw [List.getElem_zip] at e
  obtain ⟨t,ht⟩:=hv j (vs[j]'(by omega)) (List.getElem?_eq_getElem _)
  refine ⟨j,t,by rw [<-e];exact ht,by rw [<-e];exact List.getElem?_eq_getElem _⟩
 have n1:∀ (j:Nat) (t:Tok),nG (.int j t)=j:=fun j t=>by unfold nG;show (Int.toNat (j:Int))=j;rfl
 have hvs:vs.map nG=List.range kz.length:=by
  refine List.ext_getElem? fun j=>?_
  rw [List.getElem?_map]
  by_cases hj:j < vs.length
  ·obtain ⟨t,ht⟩:=hv j _ (List.getElem?_eq_getElem hj)
   rw [List.getElem?_eq_getElem hj,ht,List.getElem?_range (by omega)]
   show some (nG _)=_
   rw [n1]
  ·rw [List.getElem?_eq_none (by omega),List.getElem?_eq_none (by rw [List.length_range];omega)];rfl
 subst ho
 refine ⟨⟨?_,?_,?_⟩,?_⟩
 ·have h1:((ps.map Prod.snd).map nG).Perm (((kz.zip vs).map Prod.snd).map nG):=(hp.map _).map _
  rw [List.map_snd_zip (by omega),hvs] at h1
  exact h1
 ·rw [List.map_map,List.pairwise_map]
  refine List.Pairwise.imp_of_mem (fun {p q} hm hq hr=>?_) hs
  have hr':p.1<=q.1:=by rcases hr with z | z<;>omega
  obtain ⟨i,t,e1,e2⟩:=at' p (hp.mem_iff.mp hm)
  obtain ⟨j,u,e3,e4⟩:=at' q (hp.mem_iff.mp hq)
  show kz.getD (nG p.2) 0<=kz.getD (nG q.2) 0
  rw [e1,e3,n1,n1,List.getD_eq_getElem?_getD,List.getD_eq_getElem?_getD,e2,e4]
  exact hr'
 ·rw [List.map_map,List.pairwise_map]
  refine List.Pairwise.imp_of_mem (fun {p q} hm hq hr=>?_) hs
  obtain ⟨i,t,e1,e2⟩:=at' p (hp.mem_iff.mp hm)
  obtain ⟨j,u,e3,e4⟩:=at' q (hp.mem_iff.mp hq)
  show kz.getD (nG p.2) 0=kz.getD (nG q.2) 0->nG p.2 < nG q.2
  rw [e1,e3] at hr ⊢
  rw [n1,n1,List.getD_eq_getElem?_getD,List.getD_eq_getElem?_getD,e2,e4]
  intro z
  have z':p.1=q.1:=z
  rcases hr with y | y
  ·omega
  ·have:((i:Nat):Int) < (j:Nat):=y.2
   omega
 ·have go:∀ l:List Value,(∀ v∈l,∃ (j:Nat) (t:Tok),v=.int j t)->cX ((l.map nG).map fun i:Nat=>V.int (i:Int)) l:=by
   intro l
   induction l with
   | nil=>intro _;exact .nil
   | cons v r ih=>
    intro hl
    obtain ⟨j,t,rfl⟩:=hl v (.head _)
    exact .cons ⟨t,by rw [n1]⟩ (ih fun u hu=>hl u (.tail _ hu))
  refine go _ fun v hv'=>?_
  obtain ⟨p,hm,rfl⟩:=List.mem_map.mp hv'
  obtain ⟨j,t,e1,_⟩:=at' p (hp.mem_iff.mp hm)
  exact ⟨j,t,e1⟩
theorem zFx {r q:Addr} {n:Nat} {t u v:Tok} {Q:Value->Shared->Prop} (hc:X.calm=true) (I:Inv X pins σ H s) (hr:IsRange s.heap r 0 n 1 t u v) (h64:n < 64) (hkz:kz.length=n)
  (turn:∀ (j:Nat) (tk:Tok) (k:Int),kz[j]?=some k->∀ (s':Shared) (pl:List (Addr×Obj)),Inv X (pins++pl) σ H s'->
   wpAny (model X.prog X.w) X.A.in1.in1 (call (.ref q) [.int j tk]) (fun u s''=>(∃ t,u=.int k t)/\Inv X (pins++pl) σ H s'') (fun _ _=>False) s')
  (h:∀ D s' out c π,Inv X pins σ H s'->qO X pins H D->s.heap.objs.size<=D->s'.heap.get? D=some (seqObj "list" out c)->fF kz π->cX (π.map fun i:Nat=>V.int (i:Int)) out.toList->Q (.ref D) s'):
  wpAny (model X.prog X.w) X.A (call (.builtin "sorted") [.ref r] [(Str.ofString "key", .ref q)]) Q E s:=by
 refine call_function_entry_kw kind_sorted plain_sorted entry_sorted (ksk_s1 _ _) ?_
 unfold Builtin.«sorted»
 refine wpAny_bind (m:=checkCount "sorted" 1 1 _) (wpAny_pure ?_)
 refine wpAny_bind (xC (n:=n) (A:=X.A.in1) (I.ok.hd hc) hr (small_one (by omega) (by omega) (by omega) (by omega)) (by rw [rangeSize_one];split<;>omega) (by omega) fun h1 tk acc hk hsz hacc=>?_)
 have hl:acc.toList.length=n:=by rw [Array.length_toList];exact hacc.1
 refine wpAny_bind (wpAny_newList ?_ (by rw [hl,sizeLine_eq];omega))
 have I1:Inv X pins σ H { s with heap:=h1,toks:=tk }:=I.kept hk
 have fa:qO X pins H h1.objs.size:=I1.fpOk (Nat.le_refl _) (I1.hok.fresh (Nat.le_refl _))
 have I2:Inv X pins σ H { s with heap:=h1.push (seqObj "list" acc.toList.toArray 0),toks:=tk }:=I1.kept (t':=tk) fun b o e=>Heap.get?_push_of_some _ e
 have hoL:(h1.push (seqObj "list" acc.toList.toArray 0)).get? h1.objs.size=some (seqObj "list" acc.toList.toArray 0):=Heap.get?_push_size _ rfl
 show wpAny _ _ _ _ _ { s with heap:=h1.push (seqObj "list" acc.toList.toArray 0),toks:=tk }
 refine wpAny_bind (wpAny_holding (wpAny_call_entry_kw slot_list_sort ⟨_,hoL,rfl⟩ entry_list_sort ?body (ksk_l1 _ _)))
 case body=>
  show wpAny (model X.prog X.w) X.A.in1.in1 (Builtin.«list.sort» ⟨[.ref h1.objs.size],[(Str.ofString "key", .ref q)]⟩) _ _ _
  rw [ksk_t1]
  have s3:=Heap.SameBut.update (h1.push (seqObj "list" acc.toList.toArray 0)) h1.objs.size (Obj.mapSeq fun _=>(#[]:Array Value))
  obtain ⟨e1,ho1⟩:∃ e1,((h1.push (seqObj "list" acc.toList.toArray 0)).update h1.objs.size (Obj.mapSeq fun _=>(#[]:Array Value))).get? h1.objs.size=some (seqObj "list" #[] e1):=⟨_,get?_update_seq hoL fun _=>#[]⟩
  have I3:Inv X pins σ H { s with heap:=(h1.push (seqObj "list" acc.toList.toArray 0)).update h1.objs.size (Obj.mapSeq fun _=>(#[]:Array Value)),toks:=tk }:=(by have z:=oB (tk:=tk) fa I2 s3;exact z)
  generalize hg3:(h1.push (seqObj "list" acc.toList.toArray 0)).update h1.objs.size (Obj.mapSeq fun _=>(#[]:Array Value))=h3 at s3 ho1 I3
  unfold ksk_tree
  refine wpAny_bind (listItems_at hoL rfl ?_)
  refine wpAny_bind (listUpdate_at hoL rfl ?_ (by rw [List.size_toArray,sizeLine_eq];omega) (Nat.zero_le _))
  show wpAny _ _ _ _ _ { s with heap:=(h1.push (seqObj "list" acc.toList.toArray 0)).update h1.objs.size (Obj.mapSeq fun _=>(#[]:Array Value)),toks:=tk }
  rw [hg3]
  refine wpAny_bind (seqEpoch_at ho1 rfl ?_)
  refine wpAny_bind (wpAny_newTuple ?_ (by show acc.toList.toArray.toList.length<=_;rw [sizeLine_eq,List.toList_toArray];omega))
  refine wpAny_bind (wpAny_newList ?_ (Nat.zero_le _))
  refine wpAny_holding ?_
  have I4:Inv X pins σ H { s with heap:=h3.push (seqObj "tuple" acc.toList.toArray 0),toks:=tk }:=I3.kept (t':=tk) fun b o e=>Heap.get?_push_of_some _ e
  have fk:qO X pins H (h3.push (seqObj "tuple" acc.toList.toArray 0)).objs.size:=I4.fpOk (Nat.le_refl _) (I4.hok.fresh (Nat.le_refl _))
  have I5:Inv X pins σ H { s with heap:=(h3.push (seqObj "tuple" acc.toList.toArray 0)).push (seqObj "list" #[] 0),toks:=tk }:=I4.kept (t':=tk) fun b o e=>Heap.get?_push_of_some _ e
  have ho4:(h3.push (seqObj "tuple" acc.toList.toArray 0)).get? h1.objs.size=some (seqObj "list" #[] e1):=Heap.get?_push_of_some _ ho1
  have hvv:∀ (j:Nat) (v:Value),acc.toList[j]?=some v->∃ t,v=.int j t:=fun j v' hj=>by
   obtain ⟨tk',rfl⟩:=hacc.2 j v' (by rw [<-Array.getElem?_toList];exact hj)
   exact ⟨tk',by congr 1;omega⟩
  refine zKQ (vs:=acc.toList) (kz:=kz) (e0:=0) I5 fa fk (Nat.ne_of_gt (Heap.lt_size ho4)) (Heap.get?_push_size _ rfl) (Heap.get?_push_of_some _ ho4) (by rw [hkz,hl]) (by rw [hl];exact h64) hvv (fun i v' k hi hk' s' pl Ip=>?_) fun s' out c I' ho' ko=>?_
  ·obtain ⟨tk',rfl⟩:=hacc.2 i v' (by rw [<-Array.getElem?_toList];exact hi)
   have e3:(0:Int)+(i:Int) * 1=(i:Int):=by omega
   rw [e3]
   exact turn i tk' k hk' s' pl Ip
  ·obtain ⟨hπ,hV⟩:=zLl (by rw [hkz,hl]) hvv ko
   exact ⟨_,rfl,wpAny_pure ⟨_,rfl,h _ s' out c _ I' fa hsz ho' hπ hV⟩⟩
end
end L3
namespace L3
open PySem PySem.Spec PyProof.Rows L2 PySem.W
unseal PEd PEf PTd PWd PAd PSd dC POd PGd fO PId PSx iY PTs PCd PCf
def zPL:CXT:=fun _ _ _ _ _ _=>False
def cxL (P:Program) (w:World) (K:PySem.W.Frag) (mg:Str->Option Value) (base:Heap) (N:List Str) (qual:Str) (scope:Scope) (f:Addr) (cd:Value) (cl:List (Str×Addr)) (A:Around) (outer:List Env) (s:Shared) (H:Hp):Cx where
 prog:=P
 w:=w
 K:=K
 mg:=mg
 base:=base
 A:=A.deeper (envX qual scope s.heap.objs.size f cd cl)
 N:=N
 s₀:=s
 H₀:=H
 env:=envX qual scope s.heap.objs.size f cd cl
 outer:=outer
 stack:=envX qual scope s.heap.objs.size f cd cl::outer
 ex:=[]
 fn:=fun _=>false
 calm:=true
 pn:=[]
 xe:=fun _ _=>False
theorem zJR {P:Program} {w:World} {K:PySem.W.Frag} {mg:Str->Option Value} {base:Heap} {N:List Str} {qual name:Str} {scope:Scope} {f c':Addr} {cl:List (Str×Addr)} {A:Around} {outer:List Env} {s:Shared} {H:Hp} {params:Arguments} {body:Expr} {pm ctv u:Value} {p:Str} {σ:St} {Q:VK} {E:XK} {t:TE}
  (hd:A.handled=none) (hdp:A.depth < recursionLimit) (e0:Env0 P w K mg base A outer s H) (ho:s.heap.get? f=some (kla_obj name qual params body scope cl pm c' ctv)) (hcd:s.heap.CodeRec (.ref c') qual)
  (hbind:bindArgs (kla_fn name qual params body scope cl pm (.ref c') ctv) ⟨[u],[]⟩=pure [(p,u)]) (hloc:scope.names.lookup p=some .local)
  (hco:scope.isCoroutine=false) (hgen:scope.isGenerator=false) (hk:scope.kind=.function) (hcell:∀ x∈scope.names,x.2≠.cell)
  (hfree:∀ x,scope.names.lookup x=some .free->∃ c,cl.lookup x=some c) (hinj:∀ x y c,cl.lookup x=some c->cl.lookup y=some c->x=y)
  (hcl:∀ x c,cl.lookup x=some c->(∃ v,s.heap.IsCell c v)/\H c=none) (hlen:σ.length=N.length)
  (hσ:∀ (i:Nat) (x:Str) (v:V),N[i]?=some x->σ[i]?=some (some v)->(x=p/\cP v u)∨(scope.names.lookup x=some .free/\∃ c u',cl.lookup x=some c/\s.heap.IsCell c (some u')/\cP v u'))
  (hb:PE (cxL P w K mg base N qual scope f (.ref c') cl A outer s H) body t) (hq:t σ H Q):
  codeAny (model P w) A (.call (.ref f) ⟨[u],[]⟩) (CR zPL outer P w H s Q E) s:=by
 have lim:s.heap.NoLimit:=e0.mod.nolimit.keeps fun b o e=>(e0.bs b o e).1
 refine kla_callFunE hdp ho rfl hco hgen rfl hcd ?_
 rw [hbind]
 refine wpAny_pure (wpAny_newFunctionEnv hcell (fun y hy=>by rw [List.mem_singleton.mp hy];exact hloc) (fun h₁ hns hsb=>⟨lim.fresh _ hsb,?_⟩) hk)
 have hk₁:∀ b o,s.heap.get? b=some o->h₁.get? b=some o:=fun b o e=>hsb.extBut b o (Nat.ne_of_lt (Heap.lt_size e)) (Heap.get?_push_of_some _ e)
 have noA:∀ b:Addr,b∉(cxL P w K mg base N qual scope f (.ref c') cl A outer s H).ex:=fun b z=>absurd (show b∈([]:List Addr) from z) (by simp)
 have I:Inv (cxL P w K mg base N qual scope f (.ref c') cl A outer s H) [] σ H { s with heap:=h₁,toks:=s.toks+1 }:=by
  refine ⟨⟨e0.mod,hk,rfl,rfl,Nat.le_refl _,hinj,fun y hy=>?_,fun y c z _=>?_,fun _=>hd,Around.frames_deeper e0.frames,.inr ⟨rfl,rfl⟩,fun b z=>absurd z (noA b),e0.bs,e0.bsz,fun b _ _=>noA b,fun b z=>absurd z (noA b),e0.funs,e0.frf⟩,
   rfl,e0.bare,Un.kept hk₁,⟨_,hns,fun i y v h1 h2 h3=>?_⟩,fun y c h=>?_,e0.hok.fresh (Nat.le_refl _),fun y c h=>(hcl y c h).2,fun p hp=>absurd (show p∈([]:List (Addr×Obj)) from hp) (by simp),e0.hok.kept hk₁,hlen⟩
  ·have hy:scope.names.lookup y=some .cell∨scope.names.lookup y=some .free:=hy
   rcases hy with hy | hy
   ·exact absurd rfl (hcell _ (PySem.mem_of_lookup hy))
   ·exact hfree y hy
  ·cases z
  ·rcases hσ i y v h1 h2 with ⟨rfl,r⟩ | ⟨hf,c,u',h4,⟨o,h5,h6⟩,r⟩
   ·exact ⟨u,r,.inl ⟨hloc,by simp [List.lookup]⟩⟩
   ·exact ⟨u',r,.inr ⟨.inr hf,c,h4,o,hk₁ _ _ h5,h6⟩⟩
  ·obtain ⟨⟨v,o,h5,h6⟩,_⟩:=hcl y c h
   exact ⟨v,o,hk₁ _ _ h5,h6⟩
 refine kla_codeExpr (wpAny_mono (hb [] _ σ H Q I hq) (fun v s' z=>?_) fun e s' z=>False.elim z)
 obtain ⟨x,H',J,r,q⟩:=z
 exact ⟨x,H',J.os,J.bare,J.base,J.hok,r,q⟩
theorem zHz {l:List Value} {a b:Int} {c:Value} (h:TriplesOk l):TriplesOk (l++[rawInt a,rawInt b,c]):=TriplesOk_snoc a b c l h
theorem zEb {pos q:Pos} {c x:Value} (l:List Value) (h:TriplesOk l) (e:codeAmong q (l++[rawInt pos.line,rawInt pos.col,c])=some x):codeAmong q l=some x∨x=c:=by
 fun_induction TriplesOk l with
 | case1=>
  simp only [List.nil_append,codeAmong,rawInt] at e
  split at e
  ·exact .inr (Option.some.inj e).symm
  ·cases e
 | case2 a t b u y rest ih=>
  simp only [List.cons_append,codeAmong] at e ⊢
  split at e
  ·rename_i hc;rw [if_pos hc];exact .inl e
  ·rename_i hc;rw [if_neg hc];exact ih h e
 | case3 l h1 h2=>exact h.elim
def BMn (base:Heap) (mg:Str->Option Value):Prop:=∃ bm ob,mg "__builtins__" = some (.ref bm)/\bm≠builtinsNs/\base.get? bm=some ob/\ob.cls=.type "module" /\ ob.dict=some builtinsNs/\ob.data=.plain
section
variable {X:Cx} {pins:List (Addr×Obj)} {σ:St} {H:Hp} {s:Shared} {P c c':Addr}
theorem zIt {ps more:Array Value} {h':Heap} {tk:Nat} {oc:Obj} (I:Inv X pins σ H s) (hP:H P=some (.tbl ps)) (hx:Heap.ExtBut P s.heap h') (hge:s.heap.objs.size<=c') (hc:h'.get? c'=some oc) (hP':h'.get? P=some { cls:=.none,data:=.fields (ps++more) }):
  Inv X pins σ (upd (upd H P (.tbl (ps++more))) c' (.frz oc (.own 0))) { s with heap:=h',toks:=tk }:=by
 have nP:∀ {b:Addr},H b=none->b≠P:=fun e z=>by rw [z,hP] at e;cases e
 have cF:H c'=none:=I.hok.fresh hge
 have nc:∀ {b:Addr} {o:Obj},s.heap.get? b=some o->b≠c':=fun e=>Nat.ne_of_lt (Nat.lt_of_lt_of_le (Heap.lt_size e) hge)
 have hPc:P≠c':=aX hP cF
 have up:∀ {b:Addr},b≠P->b≠c'->upd (upd H P (.tbl (ps++more))) c' (.frz oc (.own 0)) b=H b:=fun h1 h2=>by rw [aS h2,aS h1]
 have upP:upd (upd H P (.tbl (ps++more))) c' (.frz oc (.own 0)) P=some (.tbl (ps++more)):=by rw [aS hPc,aR]
 have kd:∀ {b:Addr} {o:HO},H b=some o->(∀ qs,o≠.tbl qs)->upd (upd H P (.tbl (ps++more))) c' (.frz oc (.own 0)) b=some o:=fun {b o} e hn=>by
  rw [up (fun z=>by rw [z,hP] at e;exact hn ps (Option.some.inj e).symm) (aX e cF)];exact e
 refine I.un ⟨fun b o e n _ _=>hx b o (nP n) e,fun b o e n _ _=>⟨o.slots,hx b o (nP n) e⟩,fun b o e n _=>by rw [up (nP n) (nc e)];exact n,fun b o e _=>?_,fun b xs e=>kd e fun qs z=>(by cases z),fun b o u e=>kd e fun qs z=>(by cases z),fun b qs e=>?_⟩ fun b u e=>?_
 ·by_cases hb:b=P
  ·subst hb;exact ⟨_,hP'⟩
  ·exact ⟨o,hx b o hb e⟩
 ·by_cases hb:b=P
  ·subst hb
   rw [hP] at e;cases e
   exact ⟨more,upP⟩
  ·exact ⟨#[],by rw [up hb (aX e cF),e];simp⟩
 ·by_cases h2:b=c'
  ·subst h2
   rw [aR] at e;cases e
   exact ⟨hc,oc,hc⟩
  ·by_cases h1:b=P
   ·subst h1
    rw [upP] at e;cases e
    exact hP'
   ·rw [up h1 h2] at e
    refine (I.hok b u e).stay (fun d v hd q=>hx d v (fun z=>?_) q) (fun d q=>kd q fun qs z=>(by cases z)) fun d xs q=>kd q fun qs z=>(by cases z)
    rcases hd with rfl | hd
    ·exact h1 z
    ·rw [z,hP] at hd;cases hd
theorem zFO {ps:Array Value} {oc:Obj} {pos:Pos} {vs:Array Value} {t:Tok} (hP:H P=some (.tbl ps)) (cF:H c'=none) (hd:oc.data=.fields vs) (hv:vs[1]?=some (.str qN t)):
  Keep H (upd (upd H P (.tbl (ps++#[rawInt pos.line,rawInt pos.col,.ref c']))) c' (.frz oc (.own 0))):=by
 have hPc:P≠c':=aX hP cF
 have upP:upd (upd H P (.tbl (ps++#[rawInt pos.line,rawInt pos.col,.ref c']))) c' (.frz oc (.own 0)) P=some (.tbl (ps++#[rawInt pos.line,rawInt pos.col,.ref c'])):=by rw [aS hPc,aR]
 have kd:∀ {b:Addr} {o:HO},H b=some o->b≠P->upd (upd H P (.tbl (ps++#[rawInt pos.line,rawInt pos.col,.ref c']))) c' (.frz oc (.own 0)) b=some o:=fun {b o} e hn=>by
  rw [aS (aX e cF),aS hn];exact e
 refine ⟨fun b o e=>?_,fun Q T=>?_⟩
 ·by_cases hb:b=P
  ·subst hb
   rw [hP] at e;cases e
   exact .inr ⟨_,_,rfl,upP⟩
  ·exact .inl (kd e hb)
 ·obtain ⟨qs,e,ht,k⟩:=T
  have old:∀ (q:Pos) (cv:Value),codeAmong q qs.toList=some cv->∃ c oc' vs t u,cv=.ref c/\upd (upd H P (.tbl (ps++#[rawInt pos.line,rawInt pos.col,.ref c']))) c' (.frz oc (.own 0)) c=some (.frz oc' u)/\oc'.data=.fields vs/\vs[1]?=some (.str qN t):=fun q cv z=>by
   obtain ⟨c,oc',vs',t',u,r1,r2,r3⟩:=k q cv z
   exact ⟨c,oc',vs',t',u,r1,kd r2 (fun w=>by rw [w,hP] at r2;cases r2),r3⟩
  by_cases hb:Q=P
  ·subst hb
   rw [hP] at e;cases e
   have el:(ps++#[rawInt pos.line,rawInt pos.col,.ref c']).toList=ps.toList++[rawInt pos.line,rawInt pos.col,.ref c']:=by simp
   refine ⟨_,upP,by rw [el];exact zHz ht,fun q cv z=>?_⟩
   rw [el] at z
   rcases zEb _ ht z with z | z
   ·exact old q cv z
   ·exact ⟨c',oc,vs,t,_,z,aR,hd,hv⟩
  ·exact ⟨qs,kd e hb,ht,old⟩
theorem zId {params:Arguments} {body:Expr} {scope:Scope} {pos:Pos} {clos:List (Str×Addr)} {M:Model} {A:Around} {E:Value->Shared->Prop} {Q:Value->Shared->Prop} (I:Inv X pins σ H s) (tb:qV P H) (hC:∀ h,X.K.In h->CodeHd h c P) (hcode:X.env.code=.ref c) (hq:X.env.qual ++ "<lambda>" = qN) (hB:BMn X.base X.mg)
  (hcl:closureFor scope X.env=pure clos) (hdef:defaultsOf params X.env=([],[]))
  (h:∀ f c' ctv oc vs t u H' s',Inv X pins σ H' s'->Keep H H'->(∀ b o,H b=some o->b≠P->H' b=some o)->qO X pins H' f->s.heap.objs.size<=f->s'.heap.get? f=some (kla_obj "<lambda>" qN params body scope clos ((X.mg "__name__").getD .none) c' ctv)->
   H' c'=some (.frz oc u)->oc.data=.fields vs->vs[1]?=some (.str qN t)->Q (.ref f) s'):
  wpAny M A (eval (.Lambda params body scope pos) X.env) Q E s:=by
 obtain ⟨ps,hP,ht,hk⟩:=id tb
 have hPo:s.heap.get? P=some (tabObj ps):=I.hok P _ hP
 have hg:s.heap.Ns mainGlobals X.mg:=I.mod.glob.keeps I.bk
 have hgP:mainGlobals≠P:=fun z=>by
  obtain ⟨o,es,ep,e,_⟩:=I.mod.glob
  have:=(I.bs _ _ e).2
  rw [z,hP] at this;cases this
 have hb:s.heap.BuiltinsAt X.mg P:=by
  obtain ⟨bm,ob,b1,b2,b3,b4,b5,b6⟩:=hB
  refine ⟨bm,ob,b1,b2,fun z=>?_,fun z=>?_,(I.bs _ _ b3).1,b4,b5,b6⟩
  ·obtain ⟨o,es,ep,e,d,_⟩:=I.mod.glob
   rw [z,e] at b3;cases b3;rw [d] at b6;cases b6
  ·have:=(I.bs _ _ b3).2
   rw [z,hP] at this;cases this
 refine kla_eval hdef ?_
 rw [hq]
 cases hf:codeAmong pos ps.toList with
 | some cv=>
  obtain ⟨c',oc,vs,t,u,rfl,r1,r2,r3⟩:=hk pos cv hf
  refine kla_makeFunctionHit hcl I.ok.glob hg hcode (hC _ I.kIn) hPo ht hf hb fun ctv h' tk hkk hsz=>?_
  have I1:Inv X pins σ H { s with heap:=h',toks:=tk }:=I.kept hkk
  have I2:Inv X pins σ H { s with heap:=h'.push (kla_obj "<lambda>" qN params body scope clos ((X.mg "__name__").getD .none) c' ctv),toks:=tk }:=I1.kept (t':=tk) fun b o e=>Heap.get?_push_of_some _ e
  exact h _ c' ctv oc vs t u H _ I2 (Keep.refl _) (fun b o e _=>e) (I1.fpOk (Nat.le_refl _) (I1.hok.fresh (Nat.le_refl _))) hsz (Heap.get?_push_size _ rfl) r1 r2 r3
 | none=>
  refine kla_makeFunction hcl I.ok.glob hg hcode (hC _ I.kIn) hPo ht hf hgP hb fun c' ctv h' tk hx hge hlt hrec htb=>?_
  obtain ⟨c₂,oc,vs,t,e2,hoc,hd,hv⟩:=hrec
  cases e2
  have I1:=zIt (tk:=tk) I hP hx hge hoc htb
  have I2:=I1.kept (t':=tk) (h':=h'.push (kla_obj "<lambda>" qN params body scope clos ((X.mg "__name__").getD .none) c' ctv)) fun b o e=>Heap.get?_push_of_some _ e
  have cF:H c'=none:=I.hok.fresh hge
  exact h _ c' ctv oc vs t _ _ _ I2 (zFO hP cF hd hv) (fun b o e hb=>by rw [aS (aX e cF),aS hb];exact e) (I1.fpOk (Nat.le_refl _) (I1.hok.fresh (Nat.le_refl _))) (Nat.le_of_lt (Nat.lt_of_le_of_lt hge hlt)) (Heap.get?_push_size _ rfl) aR hd hv
end
end L3
namespace L3
open PySem PySem.Spec PyProof.Rows L2 PySem.W
unseal PEd PEf PTd PWd PAd PSd dC POd PGd fO PId PSx iY PTs PCd PCf
theorem zAF {K:PySem.W.Frag} {H:Hp}:∀ π:List Nat,IsDs K H (π.map fun i:Nat=>V.int (i:Int)) (iU π)
 | []=>.nil
 | n::ns=>.cons (.int n) (zAF ns)
def zBA (p:Pos):Arguments:={ posonlyargs:=[],args:=[{ arg := "spot", annotation:=none,pos:=p }],vararg:=none,kwonlyargs:=[],kw_defaults:=[],kwarg:=none,defaults:=[] }
def jP:Scope:={ kind:=.function,names:=[(PySem.Str.ofString "spot", .local),(PySem.Str.ofString "bottom", .free),(PySem.Str.ofString "some", .free)],isGenerator:=false,isCoroutine:=false,more:=[] }
section
variable {X:Cx} {p1 p2 p3 p4 p5 p6 p7 p8 p9 pa pb pc pd pe pf pg ph pi pj:Pos}
theorem zHv {b k:Int} {a:Addr} {xs:List V} {rows:List D} {d:D} {j:Nat} {Hi H:Hp} {Q:VK} {σ:St} (hN:X.N=(["spot", "some", "bottom"]:List Str)) (hsc:X.env.scope=jP) {pz:Pos}
  (hσ:σ=[some (.int j),some (.ref a),some (.int b)]) (hq:SqL X.K Hi a xs∨SqT X.K Hi a xs) (hs:IsDs X.K Hi xs rows) (sm:Same Hi H) (hd:rows[j]?=some d) (hk:zHq b d=.ok k) (q:Q (.int k) H):
  ∃ t,PE X (.BinOp (.Subscript (.Subscript (.Name "some" p1) (.Name "spot" p2) p3) (.Constant (.int 0) 0 p4) p5) .Mult
   (.BinOp (.Name "bottom" p6) .FloorDiv (.Subscript (.Subscript (.Name "some" p7) (.Name "spot" p8) p9) (.Constant (.int 1) 0 pa) pb) pc) pz) t/\t σ H Q:=by
 have v0:PE X (.Name "spot" p2) (uH 0):=sB (by rw [hN];rfl) (by rw [hsc];exact .inl (by decide +kernel))
 have v0':PE X (.Name "spot" p8) (uH 0):=sB (by rw [hN];rfl) (by rw [hsc];exact .inl (by decide +kernel))
 have v1:PE X (.Name "some" p1) (uH 1):=sB (by rw [hN];rfl) (by rw [hsc];exact .inr (.inr (by decide +kernel)))
 have v1':PE X (.Name "some" p7) (uH 1):=sB (by rw [hN];rfl) (by rw [hsc];exact .inr (.inr (by decide +kernel)))
 have v2:PE X (.Name "bottom" p6) (uH 2):=sB (by rw [hN];rfl) (by rw [hsc];exact .inr (.inr (by decide +kernel)))
 refine ⟨_,zFm bR (zEd aU (zEd aU v1 v0 (fun _ _=>rfl)) zFe (fun _ _=>rfl)) (zFm mX v2 (zEd aU (zEd aU v1' v0' (fun _ _=>rfl)) zFe (fun _ _=>rfl))),?_⟩
 obtain ⟨t,c,rfl,h1,h2,rfl⟩:=zJW hk
 obtain ⟨v,hv,r⟩:=hs.at hd
 obtain ⟨ra,ys,rfl,h3,h4⟩:=r.tupI
 obtain ⟨u1,u2,rfl,r1,r2⟩:=h4.two
 have e1:=r1.intI
 have e2:=r2.intI
 subst e1 e2
 have S3:=bP sm h3
 subst hσ
 have row:∀ Q':VK,Q' (.ref ra) H->(zNU X.K (.ref a) (.int j) H Q'∨zNW X.K (.ref a) (.int j) H Q'):=fun Q' q'=>by
  rcases hq with hq | hq
  ·exact .inl ⟨a,xs,j,.ref ra,rfl,rfl,cK sm hq,zBC hv,q'⟩
  ·exact .inr ⟨a,xs,j,.ref ra,rfl,rfl,bP sm hq,zBC hv,q'⟩
 refine ⟨.ref a,rfl,.int j,rfl,row _ (.inr ⟨ra,_,0,.int t,rfl,rfl,S3,rfl,?_⟩)⟩
 refine ⟨.int b,rfl,.ref a,rfl,.int j,rfl,row _ (.inr ⟨ra,_,1,.int c,rfl,rfl,S3,rfl,?_⟩)⟩
 exact ⟨b,c,rfl,rfl,h1,t,b.fdiv c,rfl,rfl,h2,q⟩
theorem zNL {a:Expr} {ta:TA} {p pos:Pos} (hg:Gl X "range") (hm:X.mg "range" = none) (ha:PA X [a] ta) (hs:starEach [a] X.env=[(false,eval a X.env)]:=by rfl):
  PE X (.Call (.Name "range" p) [a] [] pos) (fun σ H Q=>ta σ H fun vs H1=>∃ n:Nat,vs=[.int n]/\∀ r,H1 r=none->Q (.ref r) (upd H1 r (.rng 0 n))):=by
 intro pins s σ H Q I h
 refine wpAny_Call_Name_kw (lV I hg hm boot_range (PyProof.Rows.callWith_type1 (thn (ha pos pins s σ H _ I h) fun us s1 ⟨vs,H1,I1,r1,q1⟩=>?_) hs rfl))
 obtain ⟨n,e,q⟩:=q1
 subst e
 obtain ⟨u,rfl,t,rfl⟩:=zDH r1
 refine call_range_1 ⟨.ref s1.heap.objs.size,_,I1.laid (fun b o e=>Heap.get?_push_of_some _ e) (Nat.le_refl _) ?_,rfl,q _ I1.fresh⟩
 exact ⟨_,_,_,Heap.get?_push_size _ rfl⟩
structure RankCx (X:Cx) (P c:Addr):Prop where
 calm:X.calm=true
 dp:X.A.depth < recursionLimit
 n0:X.N[0]?=some ("some" : Str)
 n1:X.N[1]?=some ("bottom" : Str)
 k0:X.env.kindOf "some" = some .cell
 k1:X.env.kindOf "bottom" = some .cell
 code:X.env.code=.ref c
 hd:∀ h,X.K.In h->CodeHd h c P
 qual:X.env.qual ++ "<lambda>" = qN
 bm:BMn X.base X.mg
 clo:∃ cs cb,closureFor jP X.env=pure [(("some" : Str),cs),(("bottom" : Str),cb)]/\X.env.cells.lookup ("some" : Str)=some cs/\X.env.cells.lookup ("bottom" : Str)=some cb
 gS:Gl X "sorted"
 mS:X.mg "sorted" = none
 gR:Gl X "range"
 mR:X.mg "range" = none
 gL:Gl X "len"
 mL:X.mg "len" = none
def zLS (X:Cx) (P:Addr):TE:=fun σ H Q=>∃ Hi a xs rows b kz,σ[0]?=some (some (.ref a))/\σ[1]?=some (some (.int b))/\(SqL X.K Hi a xs∨SqT X.K Hi a xs)/\IsDs X.K Hi xs rows/\Same Hi H/\nH b rows=.ok kz/\kz.length < 64/\qV P H/\Hi P=none/\
 ∀ π r Hi' H',fF kz π->Ext Hi H Hi' H'->zIi X.K H Hi' H' r (iU π)->Q (.ref r) H'
theorem zCL {pins:List (Addr×Obj)} {σ:St} {H:Hp} {s:Shared} {i:Nat} {x:Str} {v:V} {c:Addr} (I:Inv X pins σ H s) (hi:X.N[i]?=some x) (hv:σ[i]?=some (some v)) (hk:X.env.kindOf x=some .cell) (hc:X.env.cells.lookup x=some c):∃ u,cP v u/\s.heap.IsCell c (some u):=by
 obtain ⟨m,hn,hl⟩:=I.loc
 obtain ⟨u,r,l⟩:=hl i x v hi hv (.inr (.inl hk))
 refine ⟨u,r,?_⟩
 rcases l with ⟨z,_⟩ | ⟨_,c',z,q⟩
 ·rw [hk] at z;cases z
 ·rw [hc] at z;cases z;exact q
theorem zJM {P c:Addr} (R:RankCx X P c) {pk pl pm pn:Pos} (hs1:starEach [.Name "some" p3] X.env=(false,eval (.Name "some" p3) X.env)::starEach [] X.env:=by rfl)
  (hs2:starEach [.Call (.Name "len" p2) [.Name "some" p3] [] p4] X.env=[(false,eval (.Call (.Name "len" p2) [.Name "some" p3] [] p4) X.env)]:=by rfl)
  (hs3:starEach [.Call (.Name "range" p1) [.Call (.Name "len" p2) [.Name "some" p3] [] p4] [] p5] X.env=(false,eval (.Call (.Name "range" p1) [.Call (.Name "len" p2) [.Name "some" p3] [] p4] [] p5) X.env)::starEach [] X.env:=by rfl):
  PE X (.Call (.Name "sorted" pk) [.Call (.Name "range" p1) [.Call (.Name "len" p2) [.Name "some" p3] [] p4] [] p5] [⟨some "key", .Lambda (zBA p6) (.BinOp (.Subscript (.Subscript (.Name "some" p7) (.Name "spot" p8) p9) (.Constant (.int 0) 0 pa) pb) .Mult
   (.BinOp (.Name "bottom" pc) .FloorDiv (.Subscript (.Subscript (.Name "some" pd) (.Name "spot" pe) pf) (.Constant (.int 1) 0 pg) ph) pi) pj) jP pl,pm⟩] pn) (zLS X P):=by
 intro pins s σ H Q I h
 obtain ⟨Hi,a,xs,rows,b,kz,e0,e1,hq,hds,sm,hkz,h64,tb,hiP,q⟩:=h
 obtain ⟨hl1,hl2⟩:=yB hkz
 have hlen:xs.length=kz.length:=by rw [hds.length,hl1]
 refine wpAny_Call_Name_kw (lV I R.gS R.mS boot_sorted ?_ (by decide) (by decide))
 have vS:PE X (.Name "some" p3) (uH 0):=sB R.n0 (.inr (.inl R.k0))
 have pR:=zNL (p:=p1) (pos:=p5) R.gR R.mR (dB (yO (p:=p2) (pos:=p4) aN R.gL R.mL boot_len (dB vS kY hs1) (by decide) (by decide) hs1) kY (by rw [hs2];rfl)) hs2
 refine callWith_kw (thn ((dB pR kY hs3) pn pins s σ H (fun vs H1=>∃ r,vs=[.ref r]/\H r=none/\H1=upd H r (.rng 0 kz.length)) I ?reads) fun us s1 ⟨vs,H1,I1,r1,q1⟩=>?_) (by rw [hs3];rfl) (by rw [hs3];rfl)
 case reads=>
  refine ⟨.ref a,e0,a,xs,rfl,hq.imp (cK sm) (bP sm),xs.length,rfl,fun r hr=>⟨r,rfl,hr,by rw [hlen]⟩⟩
 obtain ⟨r,rfl,hr,rfl⟩:=q1
 obtain ⟨u,rfl,ru⟩:=zDH r1
 cases ru
 obtain ⟨cs,cb,hcl,hcs,hcb⟩:=R.clo
 have x1:Ext Hi H Hi (upd H r (.rng 0 kz.length)):=Ext.newF sm hr
 refine kws_cons (zId I1 (x1.h.t P tb) R.hd R.code R.qual R.bm hcl rfl fun f c' ctv oc vs t u H3 s3 I3 hkeep hsame hf hfs hfo hc1 hc2 hc3=>kws_nil ?_)
 have x2:Ext Hi H Hi H3:=x1.trans ⟨Same.refl _,hkeep,fun b o e=>hsame b o (x1.s _ _ e) (fun z=>by rw [z,hiP] at e;cases e),fun b e z=>absurd e z⟩
 have hr3:H3 r=some (.rng 0 kz.length):=hkeep.at aR
 obtain ⟨t1,t2,t3,hrg⟩:=I3.hok r _ hr3
 have I3p:Inv X (pins++[(f,kla_obj "<lambda>" qN (zBA p6) _ jP [("some", cs),("bottom", cb)] ((X.mg "__name__").getD .none) c' ctv)]) σ H3 s3:=I3.pins_of fun p hp=>by
  rcases List.mem_append.mp hp with hp | hp
  ·exact I3.pin p (List.mem_append_right _ hp)
  ·rw [List.mem_singleton.mp hp]
   exact ⟨hfo,hf.1,hf.2.1,hf.2.2.1,fun v z=>by have z':Data.func _=Data.cell v:=z;cases z'⟩
 refine zFx (kz:=kz) R.calm I3p hrg h64 rfl (fun j tk k hj s' pl Ip=>?_) fun D s' out c2 π I' fD hDs hD hπ hV=>?_
 ·obtain ⟨d,hd,hk⟩:=hl2 j k hj
  have hfo':=(Ip.pin _ (List.mem_append_right _ (List.mem_append_left _ (List.mem_append_right _ (List.mem_singleton.mpr rfl))))).1
  obtain ⟨u0,r0,ce0⟩:=zCL Ip R.n0 e0 R.k0 hcs
  obtain ⟨u1,r1,ce1⟩:=zCL Ip R.n1 e1 R.k1 hcb
  have look:∀ {x:Str} {c:Addr},List.lookup x [(("some" : Str),cs),(("bottom" : Str),cb)]=some c->(x = "some" /\ c=cs)∨(x = "bottom" /\ c=cb):=fun {x c} z=>by
   have z':=PySem.mem_of_lookup z
   rcases List.mem_cons.mp z' with z' | z'
   ·cases z';exact .inl ⟨rfl,rfl⟩
   ·cases List.mem_singleton.mp z';exact .inr ⟨rfl,rfl⟩
  have hne:cs≠cb:=fun z=>by
   have:=Ip.ok.inj _ _ _ hcs (z ▸ hcb)
   exact absurd this (by decide)
  have lam:∃ t,PE (cxL X.prog X.w X.K X.mg X.base ["spot", "some", "bottom"] qN jP f (.ref c') [("some", cs),("bottom", cb)] X.A.in1.in1 X.stack s' H3) _ t/\t [some (.int j),some (.ref a),some (.int b)] H3 (fun v H'=>v=.int k/\H'=H3):=
   zHv (p1:=p7) (p2:=p8) (p3:=p9) (p4:=pa) (p5:=pb) (p6:=pc) (p7:=pd) (p8:=pe) (p9:=pf) (pa:=pg) (pb:=ph) (pc:=pi) (pz:=pj) rfl rfl rfl hq hds x2.s hd hk ⟨rfl,rfl⟩
  obtain ⟨tt,hb,hqq⟩:=lam
  refine wpAny_call (codeAny_mono (zJR (E:=fun _ _ _=>False) (p := "spot") (Ip.ok.hd R.calm) R.dp Ip.env0.in1.in1 hfo' ⟨c',oc,vs,t,rfl,(Ip.hok c' _ hc1).1,hc2,hc3⟩ rfl (by decide +kernel) rfl rfl rfl (by decide +kernel) (fun x hx=>?_) (fun x y c z1 z2=>?_) (fun x c z=>?_) rfl (fun i x v z1 z2=>?_) hb hqq) fun res s'' hres=>?_)
  ·have hx':=PySem.mem_of_lookup hx
   rcases List.mem_cons.mp hx' with z | hx'
   ·cases z
   ·rcases List.mem_cons.mp hx' with z | hx'
    ·cases z;exact ⟨cb,rfl⟩
    ·cases List.mem_singleton.mp hx';exact ⟨cs,rfl⟩
  ·rcases look z1 with ⟨rfl,rfl⟩ | ⟨rfl,rfl⟩<;>rcases look z2 with ⟨rfl,w⟩ | ⟨rfl,w⟩
   ·rfl
   ·exact absurd w hne
   ·exact absurd w.symm hne
   ·rfl
  ·rcases look z with ⟨rfl,rfl⟩ | ⟨rfl,rfl⟩
   ·exact ⟨⟨_,ce0⟩,Ip.freeC _ _ hcs⟩
   ·exact ⟨⟨_,ce1⟩,Ip.freeC _ _ hcb⟩
  ·match i,z1,z2 with
   | 0,z1,z2=>cases z1;cases z2;exact .inl ⟨rfl,tk,rfl⟩
   | 1,z1,z2=>cases z1;cases z2;exact .inr ⟨by decide +kernel,cs,u0,rfl,ce0,r0⟩
   | 2,z1,z2=>cases z1;cases z2;exact .inr ⟨by decide +kernel,cb,u1,rfl,ce1,r1⟩
   | i+3,z1,z2=>simp at z2
  ·cases res with
   | error ev=>exact False.elim hres
   | ok fl=>
    cases fl with
    | ret u=>
     obtain ⟨v,H',J,rv,rfl,rfl⟩:=Ip.after hres
     obtain ⟨t',rfl⟩:=rv
     exact ⟨⟨t',rfl⟩,J⟩
    | next=>exact False.elim hres
    | brk=>exact False.elim hres
    | cont=>exact False.elim hres
 ·have I'':Inv X pins σ H3 s':=I'.unpinned
  obtain ⟨f0,f1,f2,f3,f4,f5⟩:=fD
  have h0:X.s₀.heap.get? D=none:=Heap.get?_none_of_le (Nat.le_trans I3.sz hDs)
  have hl:=hV.length
  have okL:kG X.prog X.w (upd H3 D (.lst (π.map fun i:Nat=>V.int (i:Int)))) s'.heap D (.lst (π.map fun i:Nat=>V.int (i:Int))):=by
   refine ⟨?_,out.toList,c2,hV,by rw [Array.toArray_toList];exact hD⟩
   rw [List.length_map,hπ.1.length_eq,List.length_range,sizeLine_eq];omega
  have I4:=I''.track f0 h0 f1 f4 (fun p hp=>f5 p (by
   rcases List.mem_append.mp hp with hp | hp
   ·exact List.mem_append_left _ hp
   ·exact List.mem_append_right _ (List.mem_append_left _ hp))) okL
  refine ⟨.ref D,_,I4,rfl,q π D Hi _ hπ (x2.trans (Ext.newF x2.s f0)) ⟨x2.h.none f0,x2.s.none f0,_,aR,zAF π⟩⟩
end
end L3
namespace L3
open PySem PySem.Spec PyProof.Rows L2 PySem.W
unseal PEd PEf PTd PWd PAd PSd dC POd PGd fO PId PSx iY PTs PCd PCf
def spR (K:PySem.W.Frag) (mg:Str->Option Value) (kf:List D->Res (List Int)):Sp:=fun vs H Q _=>vs.length=1/\∃ Bi ds,TB K mg Bi H/\Same Bi H/\IsDs K Bi vs ds/\match kf ds with
 | .ok kz=>∀ π a Hi' H',fF kz π->Ext Bi H Hi' H'->zIi K H Hi' H' a (iU π)->Q (.ref a) H'
 | _=>False
structure CanR (P:Program) (w:World) (K:PySem.W.Frag) (mg:Str->Option Value) (base:Heap) (k:Nat) (kf:List D->Res (List Int)):Prop where
 ex:∃ f fd,FnOk P w K mg base (CX1 P w) k f fd ["some"] (spR K mg kf)/\xO K fd ["some"] []/\PySem.W.keepIn K (.ref f)=true/\mg "ranked" = some (.ref f)
theorem CanR.mono {P:Program} {w:World} {K:PySem.W.Frag} {mg:Str->Option Value} {base:Heap} {j k:Nat} {kf:List D->Res (List Int)} (c:CanR P w K mg base j kf) (h:j<=k):CanR P w K mg base k kf:=by
 obtain ⟨f,fd,F,r⟩:=c.ex
 exact ⟨⟨f,fd,F.mono h,r⟩⟩
structure RankDef (st:Stmt):Prop where
 k0:(aE st).names.lookup ("some" : Str)=some .cell
 k1:(aE st).names.lookup ("bottom" : Str)=some .cell
 gS:(aE st).names.lookup ("sorted" : Str)=some .globalImplicit
 gR:(aE st).names.lookup ("range" : Str)=some .globalImplicit
 gL:(aE st).names.lookup ("len" : Str)=some .globalImplicit
 clo:∀ L f cdv,∃ cs cb,closureFor jP (envOfC "ranked" (aE st) L f cdv)=pure [(("some" : Str),cs),(("bottom" : Str),cb)]/\(envOfC "ranked" (aE st) L f cdv).cells.lookup ("some" : Str)=some cs/\(envOfC "ranked" (aE st) L f cdv).cells.lookup ("bottom" : Str)=some cb
section
variable {P:Program} {w:World} {K:PySem.W.Frag} {mg:Str->Option Value} {base:Heap} {st s1 s2:Stmt} {f:Addr} {fd:FuncData} {k:Nat} {sa sb:Sv} {p1 p2 p3 p4 p5 p6 p7 p8 p9 pa pb pc pd pe pf pg ph pi pj pk pl pm pn po:Pos}
theorem zKA {T:Addr} (F:Fn K mg "ranked" st ["some"] f fd) (S:FnScope ["some", "bottom", "each"] ["some"] (aE st)) (D:RankDef st) (hT:oF K mg T) (hB:BMn base mg) (mS:mg "sorted" = none) (mR:mg "range" = none) (mL:mg "len" = none)
  (hbody:dR st=[s1,s2,.Return (some (.Call (.Name "sorted" pk) [.Call (.Name "range" p1) [.Call (.Name "len" p2) [.Name "some" p3] [] p4] [] p5] [⟨some "key", .Lambda (zBA p6) (.BinOp (.Subscript (.Subscript (.Name "some" p7) (.Name "spot" p8) p9) (.Constant (.int 0) 0 pa) pb) .Mult
   (.BinOp (.Name "bottom" pc) .FloorDiv (.Subscript (.Subscript (.Name "some" pd) (.Name "spot" pe) pf) (.Constant (.int 1) 0 pg) ph) pi) pj) jP pl,pm⟩] pn)) po])
  (h:∀ (cdv:Value) (A:Around) (outer:List Env) (s:Shared) (H:Hp) (E:XK) (G:Gx),Good (BX P w K mg base ["some", "bottom", "each"] "ranked" st f cdv A outer s H E) G k->zDE (BX P w K mg base ["some", "bottom", "each"] "ranked" st f cdv A outer s H E) G->
   PSd (BX P w K mg base ["some", "bottom", "each"] "ranked" st f cdv A outer s H E) G s1 sa/\PSd (BX P w K mg base ["some", "bottom", "each"] "ranked" st f cdv A outer s H E) G s2 sb):
  CanR P w K mg base (k+1) (yS sa sb):=by
 refine ⟨f,fd,?_,F.bd,F.kp,F.mg⟩
 obtain ⟨f',oc',od',fd',osl',c,t1,t2,t3,t4⟩:=id hT
 have ef:f'=f:=by have:=t1.symm.trans F.mg;exact Value.ref.inj (Option.some.inj this)
 subst ef
 obtain ⟨oc,od,kV,doc,pm',an,cdv,ct,osl,rfl,lk,hcd⟩:=F.fn.ex
 have efd:cdv=.ref c:=by
  rw [lk] at t2
  cases t2
  exact t3
 subst efd
 refine zKX lk hcd S (fun vs H Q E h=>h.1) fun A outer s H vs Q E hr hsp=>?_
 obtain ⟨hl,Bi,ds,tb,sm,hd,hq⟩:=hsp
 have hg:=zCl (P:=P) (w:=w) (K:=K) (mg:=mg) (base:=base) (N:=["some", "bottom", "each"]) (outer:=outer) (H:=H) (Bi:=Bi) (E:=E) hr tb
 obtain ⟨h1,h2⟩:=h (.ref c) A outer s H E _ hg zCS
 have RC:RankCx (BX P w K mg base ["some", "bottom", "each"] "ranked" st f' (.ref c) A outer s H E) T c:=
  ⟨rfl,hr.depth,rfl,rfl,D.k0,D.k1,rfl,t4,by show (("ranked" : Str) ++ ".<locals>.") ++ "<lambda>" = qN;decide +kernel,hB,D.clo _ _ _,D.gS,mS,D.gR,mR,D.gL,mL⟩
 have body:∀ G,PSs (BX P w K mg base ["some", "bottom", "each"] "ranked" st f' (.ref c) A outer s H E) [s1] (tS (BX P w K mg base ["some", "bottom", "each"] "ranked" st f' (.ref c) A outer s H E) G sa)->PS (BX P w K mg base ["some", "bottom", "each"] "ranked" st f' (.ref c) A outer s H E) s1 (tS (BX P w K mg base ["some", "bottom", "each"] "ranked" st f' (.ref c) A outer s H E) G sa)->PS (BX P w K mg base ["some", "bottom", "each"] "ranked" st f' (.ref c) A outer s H E) s2 (tS (BX P w K mg base ["some", "bottom", "each"] "ranked" st f' (.ref c) A outer s H E) G sb)->
   PSs (BX P w K mg base ["some", "bottom", "each"] "ranked" st f' (.ref c) A outer s H E) (dR st) (zOL (tS (BX P w K mg base ["some", "bottom", "each"] "ranked" st f' (.ref c) A outer s H E) G sa) (zOL (tS (BX P w K mg base ["some", "bottom", "each"] "ranked" st f' (.ref c) A outer s H E) G sb) (zOW (zLS (BX P w K mg base ["some", "bottom", "each"] "ranked" st f' (.ref c) A outer s H E) T)))):=fun G _ h1 h2=>by
  rw [hbody]
  exact jM h1 (jM h2 (zBZ (zCx (zJM RC))))
 refine ⟨_,body _ (zBZ h1) h1 h2,?_⟩
 cases ek:yS sa sb ds with
 | no=>rw [ek] at hq;exact hq.elim
 | err c=>rw [ek] at hq;exact hq.elim
 | ok kz=>
  rw [ek] at hq
  unfold yS at ek
  split at ek
  case isFalse=>cases ek
  split at ek
  case h_2=>cases ek
  rename_i ρ1 e1
  split at ek
  case h_2=>cases ek
  rename_i ρ2 e2
  refine ⟨L3.start 3 ds,Bi,zI (N:=["some", "bottom", "each"]) sm hd,?_⟩
  rw [e1]
  intro σ1 Hi1 H1 sm1 R1
  refine ⟨ρ1,Hi1,R1,?_⟩
  rw [e2]
  intro σ2 Hi2 H2 sm2 R2
  unfold zCF at ek
  split at ek
  case h_2=>cases ek
  rename_i rows b z0 z1
  split at ek
  case isFalse=>cases ek
  rename_i h64
  obtain ⟨v,q0,r0⟩:=R2.slot 0 _ z0
  obtain ⟨v1,q1,r1⟩:=R2.slot 1 _ z1
  obtain ⟨a,xs,rfl,g1,g2⟩:=r0.lstI
  have r1':=r1.intI
  subst r1'
  obtain ⟨tb2,n2⟩:=hg.tb.ext R2.ext T hT
  exact ⟨Hi2,a,xs,rows,b,kz,q0,q1,.inl g1,g2,R2.s,ek,by rw [(yB ek).1];exact h64,tb2,n2,fun π r Hi' H' hπ x nl=>hq π r Hi' H' hπ (R2.ext.trans x) ⟨R2.ext.h.none nl.1,nl.2⟩⟩
end
section
variable {X:Cx} {G:Gx} {e:Expr} {es:List Expr} {pos p:Pos} {fs:Fv} {k:Nat} {kf:List D->Res (List Int)} {tg:Expr} {body rest:List Stmt} {g:Gv} {sa sb:Sv}
def tIr (X:Cx) (G:Gx) (fs:Fv) (kf:List D->Res (List Int)):TI:=fun σ H R=>∃ ρ Hi,kE X G Hi H σ ρ/\Out G Hi H ((fs ρ).bind kf) fun kz Hi' H'=>∀ π J,fF kz π->sQ X.K Hi' J (iU π)->R J H'
theorem zKl (W:Good X G k) (c:CanR X.prog X.w X.K X.mg X.base k kf) (hkf:∀ ds c,kf ds≠.err c) (hk1:∀ ds,kf ds≠.no->ds.length=1) (hg:Gl X "ranked") (ha:PAd X G [e] fs) (he:starEach [e] X.env=(false,eval e X.env)::starEach [] X.env:=by rfl):
  PI X tg (.Call (.Name "ranked" p) [e] [] pos) (tIr X G fs kf):=by
 obtain ⟨f,fd,F,b,kp,hm⟩:=c.ex
 refine PI.wk (zKE (tQ F W.room hg hm kp b .nil W.pass ha (by decide) he rfl)) fun σ H R q=>?_
 obtain ⟨ρ,Hi,Rl,ou⟩:=q
 refine zHl Rl ou fun vs ds Hi1 H1 e1 R1 r1 o1=>?_
 rw [List.append_nil]
 have hno:kf ds≠.no:=fun z=>by rw [z] at o1;exact o1
 refine ⟨by rw [r1.length];exact hk1 ds hno,Hi1,ds,W.tb.ext R1.ext,R1.s,r1,?_⟩
 cases z:kf ds with
 | no=>exact absurd z hno
 | err c=>exact absurd z (hkf ds c)
 | ok kz=>
  rw [z] at o1
  intro π a Hi2 H2 hπ e2 n
  obtain ⟨n1,n2,xs,n3,n4⟩:=n
  have x3:=e2.hold n1 n3 n2
  refine ⟨a,rfl,⟨xs,SqL.of n3⟩,o1 _ _ x3 π _ hπ (zAc (SqL.of aR) (n4.mono (cG n2 _)))⟩
theorem zFV (W:Good X G k) (c:CanR X.prog X.w X.K X.mg X.base k kf) (hkf:∀ ds c,kf ds≠.err c) (hk1:∀ ds,kf ds≠.no->ds.length=1) (hg:Gl X "ranked") (ha:PAd X G [e] fs) (hgt:PGd X G tg g) (hge:∀ d ρ c,g d ρ≠.err c) (hb:dC X G body sa) (hr:dC X G rest sb)
  (he:starEach [e] X.env=(false,eval e X.env)::starEach [] X.env:=by rfl) {pf:Pos} (hs:∀ x,foldedSetIterable (.Call (.Name "ranked" p) [e] [] pos) X.env x=pure x:=by intro _;rfl):
  dC X G (.For tg (.Call (.Name "ranked" p) [e] [] pos) body [] pf::rest) (zEy fs kf g sa sb):=by
 refine PSs.wk (jM (zJi W.own W.calm (zKl W c hkf hk1 hg ha he) hgt hb hs) hr) fun E σ H q=>?_
 obtain ⟨ρ,Hi,R,h⟩:=q
 refine ⟨ρ,Hi,R,mY R h fun kz Hi1 H1 _ e1 h1 π J hπ gv=>?_⟩
 have hn:mC kz (fun π=>aY (fun ρ=>eN g sa (iU π) ρ) sb ρ)≠.no:=fun z=>by rw [z] at h1;exact h1
 rw [<-zEa hn hπ] at h1
 exact zJt hge (R.grow e1) (zMj (sa:=fun ρ=>eN g sa (iU π) ρ) h1) gv
end
end L3
namespace L3
open PySem PySem.Spec PyProof.Rows L2 PySem.W
unseal PEd PEf PTd PWd PAd PSd dC POd PGd fO PId PSx iY PTs PCd PCf
def zNB (K:PySem.W.Frag) (mg:Str->Option Value):Sp:=fun vs H Q _=>∃ (a:Addr) (ns:List Int) (Bi:Hp),vs=[.ref a]/\TB K mg Bi H/\Same Bi H/\SqL K Bi a (ns.map V.int)/\ns.length<=63/\(∃ m,m<=1048576/\∀ n∈ns,n.natAbs < 2^m)/\∀ H',Q (.bl true) H'
theorem zKw {P:Program} {w:World} {K:PySem.W.Frag} {mg:Str->Option Value} {base:Heap} {k:Nat} {m:Mir} {f:Addr} {fd:FuncData} (F:FnOk P w K mg base (CX1 P w) k f fd ["script"] (spM K mg 1 m))
  (h:∀ ns:List Int,ns.length<=63->(∃ m,m<=1048576/\∀ n∈ns,n.natAbs < 2^m)->m [.lst (ns.map D.int)]=.ok (.v (.bl true))):FnOk P w K mg base (CX1 P w) k f fd ["script"] (zNB K mg):=by
 refine F.imp fun vs H Q E q=>?_
 obtain ⟨a,ns,Bi,rfl,tb,sm,hS,hl,hbg,q⟩:=q
 refine ⟨rfl,Bi,[.lst (ns.map D.int)],tb,sm,.cons (.lst hS (zAV ns)) .nil,?_⟩
 rw [h ns hl hbg]
 intro v Hi' H' e r
 rw [r.blI]
 exact q H'
theorem zLd {P:Program} {w:World} {K:PySem.W.Frag} {mg:Str->Option Value} {base:Heap} {k:Nat} {m:Mir} {f:Addr} {fd:FuncData} (F:FnOk P w K mg base (CX1 P w) k f fd ["script"] (spM K mg 1 m))
  (h:∀ ns:List Int,ns.length<=63->m [.lst (ns.map D.int)]=.ok (.v (.bl true))):FnOk P w K mg base (CX1 P w) k f fd ["script"] (zNB K mg):=zKw F fun ns hl _=>h ns hl
theorem zHA {K:PySem.W.Frag} {mg:Str->Option Value} {h:Heap} {T T':Addr} (X:K.In h) (a:oF K mg T) (b:oF K mg T'):T'=T:=by
 obtain ⟨f,oc,od,fd,osl,c,a1,a2,a3,a4⟩:=a
 obtain ⟨f',oc',od',fd',osl',c',b1,b2,b3,b4⟩:=b
 rw [a1] at b1;cases b1
 rw [a2] at b2;cases b2
 rw [a3] at b3;cases b3
 obtain ⟨o,vs,_,_,_,_,_,_,_,e1,_,e3,e4,_⟩:=a4 h X
 obtain ⟨o',vs',_,_,_,_,_,_,_,f1,_,f3,f4,_⟩:=b4 h X
 rw [e1] at f1;cases f1
 rw [e3] at f3;cases f3
 rw [e4] at f4;cases f4
 rfl
theorem zEY {P:Program} {w:World} {K:PySem.W.Frag} {mg mb:Str->Option Value} {CX:CXT} {k:Nat} {fa a T:Addr} {fd:FuncData} {x:Str} {s₁:Shared} {vs:List Value} {ns:List Int}
  (KX:K.In s₁.heap) (hns:s₁.heap.Ns mainGlobals mg) (hb:s₁.heap.Ns builtinsNs mb) (hbb:∀ x:Str,x ≠ "__name__" -> mb x=bootBuiltins x) (hlim:s₁.heap.NoLimit) (hg:s₁.gens=#[]) (hbm:BMn s₁.heap mg) (hT:s₁.heap.get? T=some (tabObj #[])) (hKT:K.lookup T=none) (hP:oF K mg T)
  (ha:s₁.heap.get? a=some { cls:=.type "list", data:=.seq vs.toArray }) (hi:IntsAre vs ns) (hl:ns.length<=63) (hbg:∃ m,m<=1048576/\∀ n∈ns,n.natAbs < 2^m) (hr:Room k callerA)
  (F:∀ base:Heap,K.In base->base.Ns mainGlobals mg->BMn base mg->FnOk P w K mg base CX k fa fd [x] (zNB K mg)) (hbind:∀ (s:Shared) (u:Value),BindsTo s fd ⟨[u],[]⟩ [(x,u)])
  (hCX:∀ H e s',CX [] H s₁ (fun _ _ _=>False) e s'->False):
  codeAny (model P w) callerA (.call (.ref fa) ⟨[.ref a],[]⟩) (fun r s'=>r=.ok (.ret (.bool true))/\OldK s₁.heap s'.heap/\s'.os=s₁.os/\AllBare s'.gens) s₁:=by
 have rv:=zAM hi
 have lenV:=hi.length
 have haT:a≠T:=fun z=>by rw [z,hT] at ha;cases ha
 have core:∀ Bi:Hp,zPP Bi->SqL K Bi a (ns.map V.int)->HOk P w Bi s₁.heap->(∀ b,Bi b≠none->b=a)->(Bi a≠none->K.lookup a=none)->
   codeAny (model P w) callerA (.call (.ref fa) ⟨[.ref a],[]⟩) (fun r s'=>r=.ok (.ret (.bool true))/\OldK s₁.heap s'.heap/\s'.os=s₁.os/\AllBare s'.gens) s₁:=by
  intro Bi hO hS hokB hA hK
  have hBT:Bi T=none:=by
   cases q:Bi T with
   | none=>rfl
   | some u=>exact absurd (hA T (by rw [q];simp)).symm haT
  generalize hHdef:upd Bi T (.tbl #[])=H
  have HT:H T=some (.tbl #[]):=by rw [<-hHdef,aR]
  have Hne:∀ {b},b≠T->H b=Bi b:=fun z=>by rw [<-hHdef,aS z]
  have sm:Same Bi H:=fun b o e=>by rw [Hne (aX e hBT)];exact e
  have hok:HOk P w H s₁.heap:=fun b u e=>by
   by_cases hb:b=T
   ·subst hb;rw [HT] at e;cases e;exact hT
   ·rw [Hne hb] at e
    exact (hokB b u e).stay (fun c v _ q=>q) (fun c q=>sm _ _ q) fun c xs q=>sm _ _ q
  have only:∀ {b:Addr} {o:Obj},s₁.heap.get? b=some o->(∀ xs n,o.data≠.seq xs n)->(∀ vs,o.data≠.fields vs)->H b=none:=fun {b o} e d1 d2=>by
   by_cases hb:b=T
   ·subst hb;rw [hT] at e;cases e;exact absurd rfl (d2 #[])
   ·rw [Hne hb]
    cases q:Bi b with
    | none=>rfl
    | some u=>
     have e':b=a:=hA b (by rw [q];simp)
     subst e'
     rw [ha] at e;cases e
     exact absurd rfl (d1 _ _)
  have base_of:∀ {b:Addr} {o:Obj},s₁.heap.get? b=some o->H b=none->(zHp s₁.heap H).get? b=some o:=fun e n=>zHR e n
  have nsK:∀ {b:Addr} {m:Str->Option Value},s₁.heap.Ns b m->(zHp s₁.heap H).Ns b m:=fun {b m} ⟨o,es,ep,e,d,r⟩=>⟨o,es,ep,base_of e (only e (fun xs n z=>by rw [d] at z;cases z) (fun vs z=>by rw [d] at z;cases z)),d,r⟩
  have hKb:K.In (zHp s₁.heap H):=fun b o e=>base_of (KX b o e) (by
   by_cases hb:b=T
   ·subst hb;rw [hKT] at e;cases e
   ·rw [Hne hb]
    cases q:Bi b with
    | none=>rfl
    | some u=>
     have e':b=a:=hA b (by rw [q];simp)
     subst e'
     rw [hK (by rw [q];simp)] at e;cases e)
  have hBb:BMn (zHp s₁.heap H) mg:=by
   obtain ⟨bm,ob,b1,b2,b3,b4,b5,b6⟩:=hbm
   exact ⟨bm,ob,b1,b2,base_of b3 (only b3 (fun xs n z=>by rw [b6] at z;cases z) (fun vs z=>by rw [b6] at z;cases z)),b4,b5,b6⟩
  have hM:Mod K mg (zHp s₁.heap H):=⟨hKb,nsK hns,⟨mb,nsK hb,hbb⟩,let ⟨mc,h1,h2⟩:=hlim;⟨mc,nsK h1,h2⟩⟩
  have e0:Env0 P w K mg (zHp s₁.heap H) callerA [] s₁ H:=⟨rfl,hM,fun b o e=>zJG e,Nat.le_of_eq (zFF _ _),trivial,fun b hb=>absurd (show b∈([]:List Addr) from hb) (by simp),hok,.of_eq hg⟩
  have htb:TB K mg Bi H:=fun T' h'=>by
   have e':=zHA KX hP h'
   subst e'
   exact ⟨⟨#[],HT,trivial,fun pos cv z=>by cases z⟩,hBT⟩
  refine codeAny_mono ((F _ hKb (nsK hns) hBb).run callerA [] s₁ H ⟨[.ref a],[]⟩ [.ref a] [.ref a] (fun v _=>v=.bl true) (fun _ _ _=>False) hr e0 (hbind s₁ (.ref a)) (.cons rfl .nil) ⟨a,ns,Bi,rfl,htb,sm,hS,hl,hbg,fun _=>rfl⟩) fun r s' h=>?_
  cases r with
  | error e=>exact (hCX H e s' h).elim
  | ok fl=>
   cases fl with
   | next=>exact False.elim h
   | brk=>exact False.elim h
   | cont=>exact False.elim h
   | ret u=>
    obtain ⟨v,H',os,bare,un,hok',r',q⟩:=h
    have q':v=.bl true:=q
    subst q'
    obtain rfl:u=Value.bool true:=r'
    refine ⟨rfl,⟨fun b o e=>?_,fun b o e=>un.there b o e (by simp)⟩,os,bare⟩
    by_cases hbT:b=T
    ·subst hbT
     obtain ⟨more,z⟩:=un.tbls b _ HT
     have z2:s'.heap.get? b=some { cls:=.none,data:=.fields (#[]++more) }:=hok' b _ z
     rw [hT] at e;cases e
     obtain ⟨f,oc,od,fd',osl,c,a1,a2,a3,a4⟩:=hP
     obtain ⟨o,vs,_,_,_,_,_,_,_,e1,e2,e3,e4,_⟩:=a4 _ KX
     exact .inr (.inl ⟨⟨c,o,vs,e1,e2,e3,e4⟩,rfl,#[],more,rfl,z2⟩)
    ·refine .inl ?_
     cases q:H b with
     | none=>exact un.keep b o e q (by intro z;exact absurd (show b∈([]:List Addr) from z) (by simp)) (by simp)
     | some u=>
      rw [Hne hbT] at q
      rcases hO b with z | ⟨ob,xs,z⟩
      ·rw [q] at z;cases z
      ·have z2:=un.frzs b ob _ (by rw [Hne hbT];exact z)
       obtain ⟨e1,_⟩:=hokB b _ z
       obtain ⟨e2,_⟩:=hok' b _ z2
       rw [e] at e1;cases e1
       exact e2
 cases hk:K.lookup a with
 | some o=>
  have e:=KX a o hk
  rw [ha] at e
  cases e
  refine core (fun _=>none) (fun _=>.inl rfl) (.inr ⟨_,vs.toArray,_,hk,rfl,rfl,rfl,by rw [List.size_toArray,lenV,sizeLine_eq];omega,by simpa using rv⟩) (fun b u z=>by have z':(none:Option HO)=some u:=z;cases z') (fun b z=>absurd rfl z) fun z=>absurd rfl z
 | none=>
  refine core (fun b=>if b=a then some (.frz { cls:=.type "list", data:=.seq vs.toArray } (.lst (ns.map V.int))) else none) (fun b=>?_) (.inl (.inr ⟨{ cls:=.type "list", data:=.seq vs.toArray },if_pos rfl⟩)) (fun b u z=>?_) (fun b z=>?_) fun _=>hk
  ·by_cases hb:b=a
   ·exact .inr ⟨_,_,if_pos hb⟩
   ·exact .inl (if_neg hb)
  ·by_cases hb:b=a
   ·have z':=(if_pos hb).symm.trans z
    cases z'
    subst hb
    exact ⟨ha,by rw [List.length_map,sizeLine_eq];omega,vs,_,rv,ha⟩
   ·have z':=(if_neg hb).symm.trans z
    cases z'
  ·by_cases hb:b=a
   ·exact hb
   ·exact absurd (if_neg hb) z
theorem zJp:∀ {ns:List Int} {n:Int},n∈ns->(WData.int n).weight<=WData.weightAll (ns.map WData.int)
 | a::r,n,h=>by
  rw [List.map_cons,WData.weightAll]
  rcases List.mem_cons.mp h with rfl | h
  ·omega
  ·have:=zJp h
   omega
theorem zKN {ns:List Int} (h:WData.layableAll [WData.list (ns.map WData.int)]=true):(∃ m,m<=1048576/\∀ n∈ns,n.natAbs < 2^m):=by
 refine ⟨1048576,Nat.le_refl _,fun n hn=>?_⟩
 have w:WData.weightAll (ns.map WData.int)<=2^20:=by
  unfold WData.layableAll WData.layable at h
  simp only [List.all_cons,List.all_nil,Bool.and_true,Bool.and_eq_true,decide_eq_true_eq] at h
  have:=h.2
  rw [WData.weight] at this
  exact this
 have a:=zJp hn
 rw [WData.weight] at a
 by_cases z:n=0
 ·subst z
  exact Nat.two_pow_pos _
 ·rw [if_neg (by simpa using z)] at a
  exact Nat.lt_of_lt_of_le Nat.lt_log2_self (Nat.pow_le_pow_right (by decide) (by omega))
open PySem.Calls in
theorem zAp {l:OpenLaw} {n:Nat} {q:Program} {loose:List Str} {XP:(Str->Option Value)->Heap->Prop} {YP:World->Heap->Prop} {d:DefRec}
  (hn:l.most=some n) (hdf:d.params.defaults=[])
  (call:∀ (w:World) (s₀ s₁:Shared) (mg mb:Str->Option Value) (fa:Addr) (o:Obj) (pm cd doc:Value) (a:Addr) (vs:List Value) (ns:List Int),(∃ m,m<=1048576/\∀ n∈ns,n.natAbs < 2^m)->
   Ground q loose [] XP w s₀ mg mb s₁.heap->YP w s₁.heap->
   s₁.heap.get? fa=some o->o.data=.func (docDef d.name d.params d.body d.scope pm cd doc)->s₁.heap.CodeRec cd d.name->mg d.name=some (.ref fa)->
   s₁.heap.get? a=some { cls:=.type "list", data:=.seq vs.toArray }->IntsAre vs ns->ns.length<=n->s₁.gens=#[]->
   codeAny (model l.prog w) callerA (.call (.ref fa) ⟨[.ref a],[]⟩) (fun r s'=>r=.ok (.ret (.bool true))/\OldK s₁.heap s'.heap/\s'.os=s₁.os/\AllBare s'.gens) s₁):
  WalkO q loose XP YP l.row.toRowW d [] (fun f vs=>PySem.call f vs):=by
 intro w s₀ s₁ mg mb G Y fa o pm cd doc dV kV ho hd hcd hD hmg hg args vals as hpre hlay hrd hwl hlo
 obtain rfl:dV=.none:=Dflts.none hD hdf
 obtain rfl:kV=.none:=Dflts.noKw hD
 obtain ⟨a,vs,ns,rfl,rfl,hobj,hints,hlen⟩:=Att.script_of hn hpre hwl
 refine enter_call (codeAny_mono (call w s₀ s₁ mg mb fa o pm cd doc a vs ns (zKN hlay) G Y ho (fd_plain hd) hcd hmg hobj hints hlen hg) fun r s' hq=>?_)
 obtain ⟨rfl,h2,h3,h4⟩:=hq
 exact ⟨.inl ⟨.bool true,.bool true,[],rfl,fun _=>rfl,.bool true,Att.post_true l _,fun _=>⟨List.Pairwise.nil,fun _ hm=>(nomatch hm)⟩⟩,h2,h3,h4⟩
theorem zON {l:PySem.W.OpenLaw} {k:Nat} {q:Program} {loose:List Str} {XP:(Str->Option Value)->Heap->Prop} {YP:World->Heap->Prop} {d:DefRec} {K:Params->PySem.W.Frag} {T:Addr} (hn:l.most=some 63) (hdf:d.params.defaults=[]) (hr:Room k callerA)
  (hY:∀ (w:World) (h:Heap),YP w h->(K w.params).In h) (hT:∀ (w:World) (h:Heap),YP w h->h.get? T=some (tabObj #[]))
  (F:∀ (w:World) (mg:Str->Option Value) (fa:Addr) (h:Heap),(K w.params).In h->h.Ns mainGlobals mg->mg d.name=some (.ref fa)->
   (K w.params).lookup T=none/\oF (K w.params) mg T/\∃ fd:FuncData,(∀ (s:Shared) (u:Value),BindsTo s fd ⟨[u],[]⟩ [("script", u)])/\∀ base:Heap,(K w.params).In base->base.Ns mainGlobals mg->BMn base mg->FnOk l.prog w (K w.params) mg base (CX1 l.prog w) k fa fd ["script"] (zNB (K w.params) mg)):
  PySem.W.WalkO q loose XP YP l.row.toRowW d [] (fun f vs=>PySem.call f vs):=by
 refine zAp hn hdf fun w s₀ s₁ mg mb fa o pm cd doc a vs ns hbg G Y ho hd hcd hmg hobj hints hlen hg=>?_
 have KX:=hY w _ Y
 obtain ⟨h1,h2,fd,hb,hF⟩:=F w mg fa _ KX G.T.g hmg
 exact zEY KX G.T.g G.T.b G.T.builtins G.T.nolimit hg G.T.bmain (hT w _ Y) h1 h2 hobj hints hlen hbg hr hF hb fun _ _ _ z=>by
  obtain ⟨_,_,_,_,_,z⟩:=z
  exact z
end L3
namespace L3
open PySem PySem.Spec PyProof.Rows L2 PySem.W
unseal PEd PEf PTd PWd PAd PSd dC POd PGd fO PId PSx iY PTs PCd PCf
section
variable {X:Cx} {G:Gx} {pins:List (Addr×Obj)} {σ:St} {H Hi:Hp} {s:Shared} {ρ:Rho} {i k:Nat} {st:Stmt} {sa:Sv}
end
end L3
namespace L3
open PySem PySem.Spec PyProof.Rows L2 PySem.W
unseal PEd PEf PTd PWd PAd PSd dC POd PGd fO PId PSx iY PTs PCd PCf
section
variable {X:Cx} {G:Gx} {e a:Expr} {f g:Ev} {pos:Pos}
end
end L3
namespace L3
open PySem PySem.Spec PyProof.Rows L2 PySem.W
unseal PEd PEf PTd PWd PAd PSd dC POd PGd fO PId PSx iY PTs PCd PCf
section
variable {X:Cx} {G:Gx} {st:Stmt} {rest:List Stmt} {sa sb:Sv} {u:TS}
end
section
variable {P:Program} {w:World} {K:PySem.W.Frag} {mg:Str->Option Value} {base:Heap} {N ps:List Str} {x:Str} {st:Stmt} {f:Addr} {fd:FuncData} {k i0 i1 i2:Nat} {sv:Sv}
end
section
variable {X:Cx} {G:Gx} {e:Expr} {es:List Expr} {pos p:Pos} {fs:Fv} {k j0 j1 j2:Nat} {kf:List D->Res Tri} {x:Str} {ps:List Str} {tg:Expr}
end
end L3
namespace L3
open PySem PySem.Spec PyProof.Rows L2
unseal PEd PEf PTd PWd PAd PSd dC POd PGd fO PId PSx iY PTs PCd PCf
def Itq (K:PySem.W.Frag) (a:Addr) (n:Nat):It:=
 ⟨fun i H=>∃ xs x,SqL K H a xs/\xs.length=n/\xs.reverse[i]?=some x,fun i H x H'=>H'=H/\∀ xs,SqL K H a xs->xs.reverse[i]?=some x,fun i H=>∃ xs,SqL K H a xs/\n<=i⟩
def rix (n i:Nat):Int:=(n:Int) - 1 - ((min i n:Nat):Int)
theorem zGD {P:Program} {w:World} {K:PySem.W.Frag} {tg:Expr} (a it:Addr) (n:Nat):Turn P w K tg (Itq K a n) [it] it (fun i h=>h.IsRevIter it a (rix n i)) where
 mem:=by simp
 obj:=fun i h st b hb=>by
  have e:b=it:=by simpa using hb
  subst e
  obtain ⟨o,e,c,d⟩:=st
  exact ⟨o,e,fun v z=>by rw [d] at z;cases z⟩
 keep:=fun i h h' st k=>st.at fun o e=>k it (by simp) o e
 item:=by
  intro X hP hw hK hc i pins s σ H E I hf st hg
  subst hP hw hK
  obtain ⟨xs,x,hq,hn',hx⟩:=hg
  obtain ⟨its,rv,p,hz⟩:=I.list hq
  have hi:i < xs.length:=by
   have:=(List.getElem?_eq_some_iff.mp hx).1
   rwa [List.length_reverse] at this
  have hx':xs[n - 1 - i]?=some x:=by
   rw [List.getElem?_reverse hi,hn'] at hx
   exact hx
  obtain ⟨u,hu,ru⟩:=rv.get hx'
  obtain ⟨f0,f1,f2,f3,f4,f5⟩:=hf it (by simp)
  have st0:s.heap.IsRevIter it a ((n - 1 - i:Nat):Int):=by
   have e:rix n i=((n - 1 - i:Nat):Int):=by unfold rix;rw [Nat.min_eq_left (by omega)];omega
   rw [<-e];exact st
  refine wpAny_pyNext_rev_item (items:=its.toArray) st0 p.isList (x:=u) (by simpa using hu) fun h' st' sb=>?_
  have I1:Inv X pins σ H { s with heap:=h' }:=I.turned (t':=s.toks) (fun b o hb e=>(sb.2 b hb).trans e) f0 f1 f3 f4 f5
  obtain ⟨o,e,c,d⟩:=id st'
  have st2:h'.IsRevIter it a (rix n (i+1)):=by
   have e:rix n (i+1)=((n - 1 - i:Nat):Int) - 1:=by unfold rix;rw [Nat.min_eq_left (by omega)];omega
   rw [e];exact st'
  exact ⟨u,rfl,zGX (s:={ s with heap:=h' }) e c d (by decide) ⟨x,H,I1,ru,⟨rfl,fun ys hy=>by rw [I.list_inj hy hq];exact hx⟩,st2,fun b hb=>(hf b hb).1⟩⟩
 done:=by
  intro X hP hw hK hc i pins s σ H E I hf st hg
  subst hP hw hK
  obtain ⟨xs,hq,hx⟩:=hg
  obtain ⟨f0,f1,f2,f3,f4,f5⟩:=hf it (by simp)
  have st0:s.heap.IsRevIter it a (-1):=by
   have e:rix n i=-1:=by unfold rix;rw [Nat.min_eq_right hx];omega
   rw [<-e];exact st
  exact wpAny_pyNext_rev_end (I.ok.hd hc) st0 fun h' eb=>⟨rfl,I.turned (t':=s.toks) (fun b o hb e=>eb b o hb e) f0 f1 f3 f4 f5⟩
 self:=fun _ _ _ _ _ st h=>wpAny_pyIter_revIter st h
section
variable {X:Cx} {G:Gx} {fs:Fv} {f:Ev}
def iRw (K:PySem.W.Frag) (ta:TA):TI:=fun σ H R=>ta σ H fun vs H1=>∃ a xs,vs=[.ref a]/\SqL K H1 a xs/\R (Itq K a xs.length) H1
theorem zKu {tg a:Expr} {ta:TA} {p pos:Pos} (hg:Gl X "reversed") (hm:X.mg "reversed" = none) (ha:PA X [a] ta) (hs:starEach [a] X.env=[(false,eval a X.env)]:=by rfl):PI X tg (.Call (.Name "reversed" p) [a] [] pos) (iRw X.K ta):=by
 intro pins s σ H R I h
 refine Call_ (lV I hg hm zCD (PyProof.Rows.callWith_type1 (thn (ha pos pins s σ H _ I h) fun us s1 ⟨vs,H1,I1,r1,q1⟩=>?_) hs rfl))
 obtain ⟨t,xs,rfl,hq,q⟩:=q1
 cases r1 with
 | cons r rr=>
  cases rr
  cases r
  obtain ⟨its,rv,pt,hz⟩:=I1.list hq
  have hl:=rv.length
  refine call_reversed_list (items:=its.toArray) pt.isList ?_
  have hR:(s1.heap.push (revObj t ((its.toArray.size:Int) - 1))).IsRevIter s1.heap.objs.size t (rix xs.length 0):=
   ⟨_,Heap.get?_push_size _ rfl,rfl,by unfold rix;rw [hl,List.size_toArray];simp [revObj]⟩
  refine wpAny_pyIter_revIter (s:={ s1 with heap:=_ }) hR ?_
  refine ⟨s1.heap.objs.size,[s1.heap.objs.size],_,_,H1,rfl,I1.kept (t':=s1.toks) fun b o e=>Heap.get?_push_of_some _ e,zGD t _ xs.length,hR,fun b hb=>?_,q⟩
  have e:b=s1.heap.objs.size:=by simpa using hb
  subst e
  exact I1.fpOk (Nat.le_refl _) (I1.hok.fresh (Nat.le_refl _))
theorem zEp {K:PySem.W.Frag} {Hi:Hp} {a:Addr} {xs:List V} {ds:List D} (h1:SqL K Hi a xs) (h2:IsDs K Hi xs ds):sQ K Hi (Itq K a xs.length) ds.reverse:=fun Hi1 H1 s1 s2 i=>by
 have h3:=cK (s1.trans s2) h1
 have hl:=h2.length
 refine ⟨fun hl'=>⟨xs,h3,by rw [List.length_reverse] at hl';omega⟩,fun d hd=>?_⟩
 have hi:i < ds.length:=by
  have:=(List.getElem?_eq_some_iff.mp hd).1
  rwa [List.length_reverse] at this
 rw [List.getElem?_reverse hi] at hd
 obtain ⟨v,hv,r⟩:=h2.at hd
 have hv':xs.reverse[i]?=some v:=by rw [List.getElem?_reverse (by omega),hl];exact hv
 refine ⟨⟨xs,v,h3,rfl,hv'⟩,fun x H2 y=>?_⟩
 obtain ⟨e,y⟩:=y
 subst e
 have:=y xs h3
 rw [hv'] at this
 cases this
 exact ⟨Hi1,Ext.refl s2,r.mono s1⟩
theorem zNd {tg a:Expr} {p pos:Pos} (hg:Gl X "reversed") (hm:X.mg "reversed" = none) (ha:PEd X G a f) (hst:starEach [a] X.env=[(false,eval a X.env)]:=by rfl):PId X G tg (.Call (.Name "reversed" p) [a] [] pos) (zIz f):=PI.wk (zKu hg hm (dB ha kY (by rw [hst];rfl)) hst) fun σ H Q q=>by
 obtain ⟨ρ,Hi,R,ou⟩:=q
 refine zBv R ou fun v d Hi1 H1 e1 R1 r1 o1=>?_
 cases d with
 | lst ds=>
  obtain ⟨a,xs,rfl,h1,h2⟩:=r1.lstI
  exact ⟨a,xs,rfl,cK R1.s h1,o1.here R1.s _ (zEp h1 h2)⟩
 | _=>exact o1.elim
end
end L3
namespace L3
open PySem PySem.Spec PyProof.Rows L2
unseal PEd PEf PTd PWd PAd PSd dC POd PGd fO PId PSx iY PTs PCd PCf
section
variable {prog:Program} {w:World} {A:Around} {E:Value->Shared->Prop} {s:Shared}
end
section
variable {X:Cx} {G:Gx} {f:Ev}
end
section
variable {X:Cx} {G:Gx} {it:Fv} {t:Tv}
end
end L3
namespace L3
open PySem PySem.Spec PyProof.Rows L2
unseal PEd PEf PTd PWd PAd PSd dC POd PGd fO PId PSx iY PTs PCd PCf
section
variable {X:Cx} {G:Gx}
theorem cC {i:Int} {j pos}:PEd X G (.Constant (.int i) j pos) (eC (.int i)):=pP zFe fun _=>.int _
theorem aL (i:Nat) {x:Str} {pos:Pos} (hN:X.N[i]?=some x:=by rfl) (hv:Vis X.env.scope x:=by first | exact Or.inl rfl | exact Or.inr (Or.inl rfl) | exact Or.inr (Or.inr rfl)) (hd:(x==("__debug__" : Str))=false:=by decide)
  (hcd:(x==("__classdict__" : Str))=false:=by decide):PEd X G (.Name x pos) (aF i):=zMN i (pv i hN hv hd hcd)
theorem fB (n:Nat) {x:Str} {pos p2:Pos} {i:Int} {j p1} (hN:X.N[n]?=some x:=by rfl) (hv:Vis X.env.scope x:=by first | exact Or.inl rfl | exact Or.inr (Or.inl rfl) | exact Or.inr (Or.inr rfl)) (hd:(x==("__debug__" : Str))=false:=by decide)
  (hcd:(x==("__classdict__" : Str))=false:=by decide):PEd X G (.Subscript (.Name x pos) (.Constant (.int i) j p1) p2) (eOp oIx (aF n) (eC (.int i))):=cN aU jI (aL n hN hv hd hcd) cC (fun _ _=>rfl)
end
end L3
namespace L3
open PySem PySem.Spec PyProof.Rows L2
unseal PEd PEf PTd PWd PAd PSd dC POd PGd fO PId PSx iY PTs PCd PCf
section
variable {X:Cx} {G:Gx} {it:Fv} {t:Tv}
end
end L3
namespace L3
open PySem PySem.Spec PyProof.Rows L2
unseal PEd PEf PTd PWd PAd PSd dC POd PGd fO PId PSx iY PTs PCd PCf
section
variable {X:Cx} {G:Gx} {a:Expr} {f:Ev}
theorem tR {i:Int} {j p1 p2} (h:PEd X G a f):PEd X G (.Subscript a (.Constant (.int i) j p1) p2) (eOp oIx f (eC (.int i))):=cN aU jI h cC (fun _ _=>rfl)
theorem oW (h:PEd X G a f) (n:Nat) {x:Str} {pos p2:Pos} (hN:X.N[n]?=some x:=by rfl) (hv:Vis X.env.scope x:=by first | exact Or.inl rfl | exact Or.inr (Or.inl rfl) | exact Or.inr (Or.inr rfl)) (hd:(x==("__debug__" : Str))=false:=by decide)
  (hcd:(x==("__classdict__" : Str))=false:=by decide):PEd X G (.Subscript a (.Name x pos) p2) (eOp oIx f (aF n)):=cN aU jI h (aL n hN hv hd hcd) (fun _ _=>rfl)
theorem bO (n:Nat) {x:Str} {pos:Pos} (hN:X.N[n]?=some x:=by rfl) (hv:Vis X.env.scope x:=by first | exact Or.inl rfl | exact Or.inr (Or.inl rfl) | exact Or.inr (Or.inr rfl)) (hd:(x==("__debug__" : Str))=false:=by decide)
  (hcd:(x==("__classdict__" : Str))=false:=by decide):PAd X G [.Name x pos] (aB (aF n) aNil):=aA (aL n hN hv hd hcd) aI aJ
theorem s_z (i:Nat) {x:Str} {pos pos':Pos} (hN:X.N.Nodup) (he:PEd X G a f) (hi:X.N[i]?=some x:=by rfl) (hx:Loc X.env.scope x:=by first | exact Or.inl rfl | exact Or.inr rfl) (hs:swapsWith a (some (.Name x pos')) pos.line X.env=pure false:=by rfl)
  (hf:X.fn x=true∨X.env.scope.names.lookup x=some .local:=by first | exact .inl rfl | exact .inr rfl | assumption):PSd X G (.Assign [.Name x pos'] a pos) (dP i f):=zOs hN hi hx he hs hf
theorem g_z (i:Nat) {x:Str} {pos:Pos} (hN:X.N.Nodup) (hi:X.N[i]?=some x:=by rfl) (hx:Loc X.env.scope x:=by first | exact Or.inl rfl | exact Or.inr rfl) (hf:X.fn x=true∨X.env.scope.names.lookup x=some .local:=by first | exact .inl rfl | exact .inr rfl | assumption):PGd X G (.Name x pos) (gName i):=zNv hN hi hx hf
theorem zHm {s j p}:PAd X G [.Constant (.str s) j p] (aB (eC (.str s)) aNil):=aA (pP lW fun _=>.str _) aI bW
end
section
variable {P:Program} {w:World} {K:PySem.W.Frag} {mg:Str->Option Value} {base:Heap} {k:Nat} {x:Str} {st:Stmt} {ps N:List Str} {f:Addr} {fd:FuncData} {b:Sv}
theorem iA (F:Fn K mg x st ps f fd) (S:FnScope N ps (aE st))
  (h:∀ {cdv:Value} {A:Around} {outer:List Env} {s:Shared} {H:Hp} {E:XK} {G:Gx},Good (BX P w K mg base N x st f cdv A outer s H E) G k->zDE (BX P w K mg base N x st f cdv A outer s H E) G->dC (BX P w K mg base N x st f cdv A outer s H E) G (dR st) b):
  CanM P w K mg base (k+1) x ps (fn ps.length N.length b):=zBX F S fun _ _ _ _ _ _ _ W R=>h W R
end
end L3
namespace L3
open PySem PySem.Spec PyProof.Rows L2
unseal PEd PEf PTd PWd PAd PSd dC POd PGd fO PId PSx iY PTs PCd PCf
section
variable {X:Cx} {G:Gx} {e:Expr} {es:List Expr} {pos p:Pos} {fs:Fv} {k:Nat} {x:Str} {ps:List Str} {m:Mir}
end
section
variable {X:Cx} {G:Gx} {a c:Expr} {f:Ev} {pos:Pos}
end
end L3
namespace L3
open PySem PySem.Spec PyProof.Rows L2 PySem.W
unseal PEd PEf PTd PWd PAd PSd dC POd PGd fO PId PSx iY PTs PCd PCf
section
variable {X:Cx} {G:Gx} {e:Expr} {pos p:Pos} {fs:Fv} {k:Nat} {kf:List D->Res (List Int)}
end
section
variable {X:Cx} {G:Gx} {e o k:Expr} {f fk:Ev} {pos tpos:Pos}
end
section
variable {X:Cx} {G:Gx} {e:Expr} {fs:Fv}
end
section
variable {X:Cx}
end
end L3
namespace L3
open PySem PySem.Spec PyProof.Rows L2
section
variable {prog:Program} {w:World} {A:Around} {E:Value->Shared->Prop} {s:Shared}
end
section
variable {prog:Program} {w:World} {A:Around} {E:Value->Shared->Prop} {s:Shared}
end
section
unseal PEd PEf PTd PWd PAd PSd dC POd PGd fO PId PSx iY PTs PCd PCf
variable {X:Cx} {G:Gx} {fs:Fv} {f:Ev}
end
end L3
namespace L3
open PySem PySem.Spec PyProof.Rows L2 PySem.W
unseal PEd PEf PTd PWd PAd PSd dC POd PGd fO PId PSx iY
section
variable {X:Cx} {G:Gx} {k:Nat} {fb fh:Sv} {body suite:List Stmt} {b₀:Stmt} {ce:Str} {np hpos pos:Pos}
end
end L3
namespace L3
open PySem PySem.Spec PyProof.Rows L2 PySem.W
unseal PEd PEf PTd PWd PAd PSd dC POd PGd fO PId PSx iY PTs PCd PCf
section
variable {X:Cx} {G:Gx} {fa fb fm:Ev} {pos:Pos}
end
end L3
namespace L3
open PySem PySem.Spec PyProof.Rows L2
unseal PEd PEf PTd PWd PAd PSd dC POd PGd fO PId PSx iY PTs PCd PCf
section
variable {X:Cx} {G:Gx} {a b c d:Expr} {f g h q:Ev} {pos:Pos}
end
end L3
namespace L3
open PySem PySem.Spec PyProof.Rows L2 PySem.W
unseal PEd PEf PTd PWd PAd PSd dC POd PGd fO PId PSx iY PTs PCd PCf
open Classical in
def zH (H:Hp) (a:Addr):Hp:=fun b=>if b=a then none else H b
theorem jF {H:Hp} {a:Addr}:zH H a a=none:=if_pos rfl
theorem iO {H:Hp} {a b:Addr} (h:b≠a):zH H a b=H b:=if_neg h
theorem oR {H:Hp} {a b:Addr} {o:HO} (h:zH H a b=some o):b≠a/\H b=some o:=by
 by_cases e:b=a
 ·subst e;rw [jF] at h;cases h
 ·rw [iO e] at h;exact ⟨e,h⟩
theorem zBS {P a:Addr} {H:Hp} {xs:List V} (h:qV P H) (ha:H a=some (.lst xs)):qV P (zH H a):=by
 obtain ⟨ps,e,t,k⟩:=h
 have n:∀ {b o},H b=some o->(∀ ys,o≠.lst ys)->b≠a:=fun {b o} q z w=>by subst w;rw [ha] at q;cases q;exact z _ rfl
 refine ⟨ps,by rw [iO (n e fun ys z=>by cases z)];exact e,t,fun pos cv q=>?_⟩
 obtain ⟨c,oc,vs,tk,u,r1,r2,r3⟩:=k pos cv q
 exact ⟨c,oc,vs,tk,u,r1,by rw [iO (n r2 fun ys z=>by cases z)];exact r2,r3⟩
theorem zGf {P a:Addr} {H:Hp} (h:qV P (zH H a)):qV P H:=by
 obtain ⟨ps,e,t,k⟩:=h
 refine ⟨ps,(oR e).2,t,fun pos cv q=>?_⟩
 obtain ⟨c,oc,vs,tk,u,r1,r2,r3⟩:=k pos cv q
 exact ⟨c,oc,vs,tk,u,r1,(oR r2).2,r3⟩
theorem zDL (H:Hp) (a:Addr):Keep (zH H a) H:=⟨fun b o e=>.inl (oR e).2,fun P h=>zGf h⟩
theorem zFv {Hi H Hi' H':Hp} {a:Addr} {xs:List V} (e:Ext Hi H Hi' H') (hn:H a=none) (h:H' a=some (.lst xs)) (hi:Hi' a=none):Ext Hi H Hi' (zH H' a) where
 i:=e.i
 h:=⟨fun b o q=>by
   have n:b≠a:=fun z=>by rw [z,hn] at q;cases q
   rw [iO n]
   exact e.h.k b o q,fun P t=>zBS (e.h.t P t) h⟩
 s:=fun b o q=>by
  have n:b≠a:=fun z=>by rw [z,hi] at q;cases q
  rw [iO n]
  exact e.s b o q
 n:=e.n
theorem zKi {Hi H Hi' H':Hp} {a:Addr} {xs ys:List V} (e:Ext Hi H Hi' H') (hn:H a=none) (h:H' a=some (.lst xs)) (hi:Hi' a=none):Ext Hi H Hi' (upd H' a (.lst ys)) where
 i:=e.i
 h:=⟨fun b o q=>by
   have n:b≠a:=fun z=>by rw [z,hn] at q;cases q
   rw [aS n]
   exact e.h.k b o q,fun P t=>(e.h.t P t).put (fun ps z=>by rw [h] at z;cases z) (fun o u z=>by rw [h] at z;cases z)⟩
 s:=fun b o q=>by
  have n:b≠a:=fun z=>by rw [z,hi] at q;cases q
  rw [aS n]
  exact e.s b o q
 n:=e.n
def zPG (K:PySem.W.Frag) (mg:Str->Option Value) (np:Nat) (kf:List D->List D->Res (Bool×List D)):Sp:=fun vs H Q _=>vs.length=np+1/\∃ Bi us ds a xs es,vs=us++[.ref a]/\TB K mg Bi H/\Same Bi H/\IsDs K Bi us ds/\H a=some (.lst xs)/\Bi a=none/\IsDs K Bi xs es/\∃ b es',kf ds es=.ok (b,es')/\
 ∀ Hi' H' xs',Ext Bi (zH H a) Hi' H'->H' a=some (.lst xs')->Hi' a=none->IsDs K Hi' xs' es'->Q (.bl b) H'
structure CanL (P:Program) (w:World) (K:PySem.W.Frag) (mg:Str->Option Value) (base:Heap) (k:Nat) (x:Str) (ps:List Str) (np:Nat) (kf:List D->List D->Res (Bool×List D)):Prop where
 ex:∃ f fd,FnOk P w K mg base (CX1 P w) k f fd ps (zPG K mg np kf)/\xO K fd ps []/\PySem.W.keepIn K (.ref f)=true/\mg x=some (.ref f)
theorem CanL.mono {P:Program} {w:World} {K:PySem.W.Frag} {mg:Str->Option Value} {base:Heap} {j k np:Nat} {x:Str} {ps:List Str} {kf:List D->List D->Res (Bool×List D)} (c:CanL P w K mg base j x ps np kf) (h:j<=k):CanL P w K mg base k x ps np kf:=by
 obtain ⟨f,fd,F,r⟩:=c.ex
 exact ⟨⟨f,fd,F.mono h,r⟩⟩
section
variable {X:Cx} {G:Gx} {st:Stmt} {rest:List Stmt} {sa sb:Sv} {u:TS} {k:Nat} {f:Ev}
def tLS (X:Cx) (k:Nat) (Ee:Str->Hp->Prop) (sS:Sv):TS:=fun E σ H=>∃ B Bi,Good X ⟨B,Bi,Ee⟩ k/\tS X ⟨B,Bi,Ee⟩ sS E σ H
theorem zOq {Ee:Str->Hp->Prop} (h:∀ G,Good X G k->dC X G rest sa):PSs X rest (tLS X k Ee sa):=fun pins s σ H E I q=>by
 obtain ⟨B,Bi,g,t⟩:=q
 exact h _ g pins s σ H E I t
def tLA (X:Cx) (G:Gx) (i:Nat) (f:Ev) (u:TS):TS:=fun E σ H=>tD X G f σ H fun v H'=>u E (σ.set i (some v)) H'
def tLP (X:Cx) (G:Gx) (p:Nat) (f:Ev) (u:TS):TS:=fun E σ H=>∃ a xs,σ[p]?=some (some (.ref a))/\H a=some (.lst xs)/\tD X G f σ H fun v H'=>H' a=some (.lst xs)/\xs.length < 16777216/\u E σ (upd H' a (.lst (xs++[v])))
theorem zLN {i:Nat} {y:Str} {e:Expr} {pos pos':Pos} (hN:X.N.Nodup) (hi:X.N[i]?=some y) (hx:Loc X.env.scope y) (he:PEd X G e f) (hr:PSs X rest u) (hs:swapsWith e (some (.Name y pos')) pos.line X.env=pure false:=by rfl) (hf:X.fn y=true∨X.env.scope.names.lookup y=some .local:=by first | exact .inl rfl | exact .inr rfl | assumption):
  PSs X (.Assign [.Name y pos'] e pos::rest) (tLA X G i f u):=PSs.wk (jM (zGb hN hi hx he hs hf) hr) fun E σ H q=>q
theorem zLj {i:Nat} {y:Str} {e:Expr} {pos pos':Pos} (hN:X.N.Nodup) (hi:X.N[i]?=some y) (hx:Loc X.env.scope y) (he:PCd X G e f) (hs:swapsWith e (some (.Name y pos')) pos.line X.env=pure true) (hr:PSs X rest u) (hf:X.fn y=true∨X.env.scope.names.lookup y=some .local:=by first | exact .inl rfl | exact .inr rfl | assumption):
  PSs X (.Assign [.Name y pos'] e pos::rest) (tLA X G i f u):=PSs.wk (jM (zFi hN hi hx he hs hf) hr) fun E σ H q=>q
theorem zIV {i:Nat} {o e:Expr} {apos cpos pos:Pos} (ho:PE X o (uH i)) (he:PEd X G e f) (hr:PSs X rest u)
  (hbase:attributeBase o "append" X.env (eval o X.env)=eval o X.env:=by rfl)
  (hfew:((backTo cpos (starEach [e] X.env)).all (fun x=>!x.1) && (backToKw cpos (keywordEach [] X.env)).all (fun x=>x.1.isSome)
   && decide ([e].length+([]:List Keyword).length+(if ([]:List Keyword).isEmpty then 0 else 1) < 30))=true:=by rfl)
  (hline:(apos.endLine==cpos.line)=true:=by rfl) (hs:starEach [e] X.env=(false,eval e X.env)::starEach [] X.env:=by rfl)
  (hsw:swapsWith (.Call (.Attribute o "append" apos) [e] [] cpos) none pos.line X.env=pure false:=by rfl):
  PSs X (.Expr (.Call (.Attribute o "append" apos) [e] [] cpos) pos::rest) (tLP X G i f u):=
 PSs.wk (jM (yA (zNg PySem.F.plainAttrs_list PySem.F.slot_list_append PySem.F.type_list_append oT ho (dB he kY hs) hbase hfew hline hs) hsw) hr) fun E σ H q=>by
  obtain ⟨a,xs,p,h1,ρ,Hi,R,ou⟩:=q
  refine ⟨.ref a,p,.inl ⟨rfl,xs,SqL.of h1⟩,ρ,Hi,R,ou.imp fun d Hi' H' e h v r=>?_⟩
  obtain ⟨g1,g2,g3⟩:=h v r
  exact ⟨a,xs,v,rfl,rfl,g1,g2,g3⟩
end
section
variable {K:PySem.W.Frag} {mg:Str->Option Value} {B Bi Hi H:Hp} {σ:St} {ρ:Rho}
theorem Rel.putO {a:Addr} {xs ys:List V} (R:Rel K mg B Bi Hi H σ ρ) (pl:ρ.all zNQ=true) (hn:B a=none) (h:H a=some (.lst xs)) (hi:Hi a=none):Rel K mg B Bi Hi (upd H a (.lst ys)) σ ρ where
 len:=R.len
 ext:=zKi R.ext hn h hi
 slot:=fun i s e=>by
  have z:=R.slot i s e
  have v:=List.all_eq_true.mp pl s (List.mem_of_getElem? e)
  cases s with
  | un=>trivial
  | val d=>exact z
  | own ds=>cases v
  | exc c=>cases v
  | tab T=>cases v
 dist:=R.dist
theorem Rel.lent {Hi' H':Hp} {y:Nat} {a:Addr} {xs':List V} {es es':List D} (R:Rel K mg B Bi Hi H σ ρ) (q:ρ[y]?=some (.own es)) (p:σ[y]?=some (some (.ref a))) (x:Ext Hi (zH H a) Hi' H') (h1:H' a=some (.lst xs')) (h2:Hi' a=none) (h3:IsDs K Hi' xs' es'):Rel K mg B Bi Hi' H' σ (ρ.set y (.own es')):=by
 obtain ⟨a',xs,p',g1,g2,g3,g4⟩:=R.slot y _ q
 rw [p] at p'
 cases p'
 have own:∀ {j:Nat} {fs:List D},(ρ.set y (.own es'))[j]?=some (.own fs)->∃ gs,ρ[j]?=some (.own gs):=fun {j fs} e=>by
  by_cases z:y=j
  ·subst z;exact ⟨_,q⟩
  ·rw [List.getElem?_set_ne z] at e;exact ⟨_,e⟩
 refine ⟨R.len.trans (List.length_set ..).symm,(zFv R.ext g3 g1 g2).trans x,fun j s e=>?_,fun i j b fs gs e1 e2 e3 e4=>?_⟩
 ·by_cases z:y=j
  ·subst z
   rw [List.getElem?_set_self (List.getElem?_eq_some_iff.mp q).1] at e
   cases e
   exact ⟨a,xs',p,h1,h2,g3,h3⟩
  ·rw [List.getElem?_set_ne z] at e
   have t:=R.slot j s e
   cases s with
   | un=>trivial
   | val d=>obtain ⟨v,u,r⟩:=t;exact ⟨v,u,r.mono x.i⟩
   | own ds=>
    obtain ⟨b,ys,u,k1,k2,k3,k4⟩:=t
    have n:b≠a:=fun w=>z (R.dist y j a es ds q e p (by rw [u,w]))
    obtain ⟨m1,m2⟩:=x.out (a:=b) (by rw [iO n];exact k1) k2
    exact ⟨b,ys,u,m1,m2,k3,k4.mono x.i⟩
   | exc c=>
    obtain ⟨b,C,u,k1,k2,k3,k4⟩:=t
    have n:b≠a:=fun w=>by rw [w,g1] at k1;cases k1
    obtain ⟨m1,m2⟩:=x.out (a:=b) (by rw [iO n];exact k1) k2
    exact ⟨b,C,u,m1,m2,k3,k4⟩
   | tab T=>obtain ⟨b,u,k1⟩:=t;exact ⟨b,u,x.i _ _ k1⟩
 ·obtain ⟨fs',q1⟩:=own e1
  obtain ⟨gs',q2⟩:=own e2
  exact R.dist i j b fs' gs' q1 q2 e3 e4
theorem zDC (n:Nat) (ds:List D):(L3.start n ds).all zNQ=true:=by
 unfold L3.start
 rw [List.all_append,Bool.and_eq_true]
 refine ⟨?_,?_⟩
 ·rw [List.all_map,List.all_eq_true];exact fun _ _=>rfl
 ·rw [List.all_eq_true];intro x hx;rw [(List.mem_replicate.mp hx).2];rfl
theorem zGE {i:Nat} {d:D} (h:ρ.all zNQ=true):(ρ.set i (.val d)).all zNQ=true:=by
 rw [List.all_eq_true] at h ⊢
 intro x hx
 rcases List.mem_or_eq_of_mem_set hx with z | z
 ·exact h x z
 ·rw [z];rfl
end
theorem wG {K:PySem.W.Frag} {mg:Str->Option Value} {Bi H:Hp} {N:List Str} {us:List V} {ds:List D} {a:Addr} (s:Same Bi H) (h:IsDs K Bi us ds) (hN:ds.length < N.length):Rel K mg (zH H a) Bi Bi H (L2.start N (us++[.ref a])) (L3.start N.length ds) where
 len:=by
  unfold L2.start L3.start
  simp only [List.length_append,List.length_map,List.length_replicate,List.length_cons,List.length_nil,h.length]
  omega
 ext:=⟨Same.refl _,zDL H a,s,fun b e q=>absurd e q⟩
 slot:=fun i sl e=>by
  unfold L3.start at e
  have hl:=h.length
  by_cases hi':i < ds.length
  ·rw [List.getElem?_append_left (by rw [List.length_map];exact hi'),List.getElem?_map] at e
   obtain ⟨d,hd⟩:∃ d,ds[i]?=some d:=⟨_,List.getElem?_eq_getElem hi'⟩
   rw [hd] at e;cases e
   obtain ⟨v,hv,r⟩:=h.at hd
   refine ⟨v,?_,r⟩
   unfold L2.start
   rw [List.getElem?_append_left (by rw [List.length_map,List.length_append];omega),List.getElem?_map,List.getElem?_append_left (by omega),hv]
   rfl
  ·rw [List.getElem?_append_right (by rw [List.length_map];omega),List.getElem?_replicate] at e
   split at e
   ·cases e;trivial
   ·cases e
 dist:=fun i j b fs gs e1 e2 _ _=>by
  have v:=List.all_eq_true.mp (zDC N.length ds) _ (List.mem_of_getElem? e1)
  cases v
theorem zHD {N:List Str} {us:List V} {a:Addr}:(L2.start N (us++[.ref a]))[us.length]?=some (some (.ref a)):=by
 unfold L2.start
 rw [List.getElem?_append_left (by rw [List.length_map,List.length_append];exact Nat.lt_succ_self _),List.getElem?_map,List.getElem?_append_right (Nat.le_refl _),Nat.sub_self]
 rfl
section
variable {P:Program} {w:World} {K:PySem.W.Frag} {mg:Str->Option Value} {base:Heap} {N ps:List Str} {x:Str} {st:Stmt} {f:Addr} {fd:FuncData} {k np i1 i2:Nat} {f1 f2 f3 f4:Ev} {sS:Sv}
theorem zKY (F:Fn K mg x st ps f fd) (S:FnScope N ps (aE st)) (hp:ps.length=np+1)
  (h:∀ (cdv:Value) (A:Around) (outer:List Env) (s:Shared) (H:Hp) (E:XK) (G:Gx),Good (BX P w K mg base N x st f cdv A outer s H E) G k->PSs (BX P w K mg base N x st f cdv A outer s H E) (dR st)
   (tLA (BX P w K mg base N x st f cdv A outer s H E) G i1 f1 (tLA (BX P w K mg base N x st f cdv A outer s H E) G i2 f2 (tLP (BX P w K mg base N x st f cdv A outer s H E) G np f3 (tLP (BX P w K mg base N x st f cdv A outer s H E) G np f4 (tLS (BX P w K mg base N x st f cdv A outer s H E) k G.E sS)))))):
  CanL P w K mg base (k+1) x ps np (zEe np N.length i1 i2 f1 f2 f3 f4 sS):=by
 refine ⟨f,fd,?_,F.bd,F.kp,F.mg⟩
 obtain ⟨oc,od,kV,doc,pm,an,cdv,ct,osl,rfl,lk,hcd⟩:=F.fn.ex
 refine zKX lk hcd S (fun vs H Q E h=>by rw [hp];exact h.1) fun A outer s H vs Q E hr hsp=>?_
 obtain ⟨hl,Bi,us,ds,a,xs,es,rfl,tb,sm,hd,ha,hi,hx,b,es',hk,hq⟩:=hsp
 obtain ⟨hlen,hnl,n1,n2,hes,d1,d2,d3,d4,r,e1,e2,e3,e4,e5,e6⟩:=zIh hk
 cases e6
 have hg0:=zCl (P:=P) (w:=w) (K:=K) (mg:=mg) (base:=base) (N:=N) (outer:=outer) (H:=H) (Bi:=Bi) (E:=E) hr tb
 have hg:Good (BX P w K mg base N x st f cdv A outer s H E) ⟨zH H a,Bi,fun c H'=>∀ C,mg c=some C->E C none H'⟩ k:=⟨hg0.calm,hg0.room,hg0.pass,hg0.own,fun P q=>⟨zBS (tb P q).1 ha,(tb P q).2⟩⟩
 have hul:us.length=np:=by rw [hd.length,hlen]
 have hxl:=hx.length
 refine ⟨_,h cdv A outer s H E _ hg,L3.start N.length ds,Bi,wG sm hd (by omega),?_⟩
 rw [e1]
 intro Hi1 H1 x1 v1 r1
 have R0:Rel K mg (zH H a) Bi Bi H (L2.start N (us++[.ref a])) (L3.start N.length ds):=wG sm hd (by omega)
 have R1:=(R0.grow x1).set (i:=i1) r1
 obtain ⟨a1,b1⟩:=x1.out ha hi
 refine ⟨_,Hi1,R1,?_⟩
 rw [e2]
 intro Hi2 H2 x2 v2 r2
 have R2:=(R1.grow x2).set (i:=i2) r2
 obtain ⟨a2,b2⟩:=x2.out a1 b1
 have p2:=zGE (i:=i2) (d:=d2) (zGE (i:=i1) (d:=d1) (zDC N.length ds))
 have at2:(((L2.start N (us++[.ref a])).set i1 (some v1)).set i2 (some v2))[np]?=some (some (.ref a)):=by
  rw [List.getElem?_set_ne n2,List.getElem?_set_ne n1,<-hul];exact zHD
 refine ⟨a,xs,at2,a2,_,Hi2,R2,?_⟩
 rw [e3]
 intro Hi3 H3 x3 v3 r3
 obtain ⟨a3,b3⟩:=x3.out a2 b2
 have R3:=(R2.grow x3).putO (ys:=xs++[v3]) p2 jF a3 b3
 have s3:Same Bi Hi3:=(x1.i.trans x2.i).trans x3.i
 have i3:IsDs K Hi3 (xs++[v3]) (es++[d3]):=(hx.mono s3).append (.cons r3 .nil)
 have a3':upd H3 a (.lst (xs++[v3])) a=some (.lst (xs++[v3])):=aR
 refine ⟨a3,by omega,a,xs++[v3],at2,a3',_,Hi3,R3,?_⟩
 rw [e4]
 intro Hi4 H4 x4 v4 r4
 obtain ⟨a4,b4⟩:=x4.out a3' b3
 have R4:=(R3.grow x4).putO (ys:=xs++[v3]++[v4]) p2 jF a4 b4
 have i4:IsDs K Hi4 (xs++[v3]++[v4]) (es++[d3,d4]):=by
  rw [show es++[d3,d4]=es++[d3]++[d4] by rw [List.append_assoc];rfl]
  exact (i3.mono x4.i).append (.cons r4 .nil)
 refine ⟨a4,by rw [List.length_append];show xs.length+1 < _;omega,?_⟩
 generalize hys:xs++[v3]++[v4]=ys at R4 i4 ⊢
 have a5:upd H4 a (.lst ys) a=some (.lst ys):=aR
 generalize upd H4 a (.lst ys)=H5 at R4 a5 ⊢
 have X5:Ext Bi (zH H a) (upd Hi4 a (.lst ys)) H5:=R4.ext.hold jF a5 b4
 have sf:Same Hi4 (upd Hi4 a (.lst ys)):=cG b4 _
 have tb0:TB K mg Bi (zH H a):=fun P q=>⟨zBS (tb P q).1 ha,(tb P q).2⟩
 refine ⟨H5,upd Hi4 a (.lst ys),⟨hg0.calm,hg0.room,hg0.pass,hg0.own,tb0.ext X5⟩,(((L3.start N.length ds).set i1 (.val d1)).set i2 (.val d2)).set np (.val (.lst (es++[d3,d4]))),upd Hi4 a (.lst ys),?_,?_⟩
 ·refine ⟨R4.len.trans (List.length_set ..).symm,Ext.refl X5.s,fun j s e=>?_,fun i j b fs gs q1 q2 _ _=>?_⟩
  ·by_cases z:j=np
   ·subst z
    rw [List.getElem?_set_self (by rw [List.length_set,List.length_set];unfold L3.start;rw [List.length_append,List.length_map,List.length_replicate];omega)] at e
    cases e
    exact ⟨.ref a,at2,.lst (SqL.of aR) (i4.mono sf)⟩
   ·rw [List.getElem?_set_ne (Ne.symm z)] at e
    have q:=R4.slot j s e
    have v:=List.all_eq_true.mp p2 s (List.mem_of_getElem? e)
    cases s with
    | un=>trivial
    | val d=>obtain ⟨v,p,r⟩:=q;exact ⟨v,p,r.mono sf⟩
    | own ds=>cases v
    | exc c=>cases v
    | tab T=>cases v
  ·have v:=List.all_eq_true.mp (zGE (i:=np) (d:=.lst (es++[d3,d4])) p2) _ (List.mem_of_getElem? q1)
   cases v
 ·rw [e5]
  intro v Hi' H' x6 rv
  rw [rv.blI]
  have a6:H' a=some (.lst ys):=x6.h.at a5
  refine hq (zH Hi' a) H' ys ⟨fun b o q=>?_,R4.ext.h.trans x6.h,fun b o q=>x6.s b o (oR q).2,fun b q z=>?_⟩ a6 jF ?_
  ·have n:b≠a:=fun z=>by rw [z,hi] at q;cases q
   rw [iO n]
   exact x6.i _ _ (X5.i b o q)
  ·have n:b≠a:=fun w=>by rw [w,jF] at z;exact z rfl
   rw [iO n] at z
   cases w:Hi4 b with
   | some o=>exact R4.ext.n b q (by rw [w];exact fun c=>by cases c)
   | none=>
    have:=x6.n b (by show upd Hi4 a (.lst ys) b=none;rw [aS n];exact w) z
    exact R4.ext.h.none this
  ·refine i4.mono fun b o q=>?_
   have n:b≠a:=fun z=>by rw [z,b4] at q;cases q
   rw [iO n]
   exact x6.i _ _ (sf b o q)
end
section
variable {X:Cx} {G:Gx} {e1 e2 e3 e4:Expr} {pos p p2 p3:Pos} {k i j l y:Nat} {kf:List D->List D->Res (Bool×List D)} {x:Str} {ps:List Str} {body:List Stmt}
theorem zOO (W:Good X G k) (c:CanL X.prog X.w X.K X.mg X.base k x ps 3 kf) (hg:Gl X x) (h1:PE X e1 (uH i)) (h2:PE X e2 (uH j)) (h3:PE X e3 (uH l)) (h4:PE X e4 (uH y))
  (hdb:(x==("__debug__" : Str))=false:=by decide) (he:starEach [e1,e2,e3,e4] X.env=(false,eval e1 X.env)::starEach [e2,e3,e4] X.env:=by rfl) (hpl:(backTo pos (starEach [e2,e3,e4] X.env)).any (·.1)=false:=by rfl)
  (s2:starEach [e2,e3,e4] X.env=(false,eval e2 X.env)::starEach [e3,e4] X.env:=by rfl) (s3:starEach [e3,e4] X.env=(false,eval e3 X.env)::starEach [e4] X.env:=by rfl) (s4:starEach [e4] X.env=(false,eval e4 X.env)::starEach [] X.env:=by rfl)
  (ht:∀ whole,isTrue (.Call (.Name x p) [e1,e2,e3,e4] [] pos) X.env whole=(do let v <-whole;standAt (Expr.Call (.Name x p) [e1,e2,e3,e4] [] pos).pos;holding [v] (truthy v)):=by intro _;rfl):
  PSd X G (.If (.UnaryOp .Not (.Call (.Name x p) [e1,e2,e3,e4] [] pos) p2) body [] p3) (zMJ i j l y kf):=by
 obtain ⟨f,fd,F,b,kp,hm⟩:=c.ex
 refine PS.wk (zJJ (zEG (zFd (tQ F W.room hg hm kp b .nil W.pass (dB h1 (dB h2 (dB h3 (dB h4 kY s4) s3) s2) he) hdb he hpl) ht)) (fun _ _ _ _ _ _ h=>h.elim:PSs X body (fun _ _ _=>False)) zBz) fun E σ H q=>?_
 obtain ⟨ρ,Hi,R,h⟩:=q
 unfold zMJ at h
 split at h
 ·rename_i a b' c' es q1 q2 q3 q4
  obtain ⟨v1,u1,r1⟩:=R.slot i _ q1
  obtain ⟨v2,u2,r2⟩:=R.slot j _ q2
  obtain ⟨v3,u3,r3⟩:=R.slot l _ q3
  obtain ⟨ad,xs,u4,g1,g2,g3,g4⟩:=R.slot y _ q4
  cases z:kf [a,b',c'] es with
  | no=>rw [z] at h;exact h.elim
  | err c=>rw [z] at h;exact h.elim
  | ok r=>
   obtain ⟨t,es'⟩:=r
   rw [z] at h
   cases t with
   | false=>exact h.elim
   | true=>
    refine ⟨v1,u1,v2,u2,v3,u3,.ref ad,u4,rfl,Hi,[v1,v2,v3],[a,b',c'],ad,xs,es,rfl,W.tb.ext R.ext,R.s,.cons r1 (.cons r2 (.cons r3 .nil)),g1,g2,g4,true,es',z,fun Hi' H' xs' x1 h1 h2 h3=>⟨true,rfl,?_⟩⟩
    exact h σ Hi' H' x1.i (R.lent q4 u4 x1 h1 h2 h3)
 ·exact h.elim
theorem zMe (W:Good X G k) (c:CanL X.prog X.w X.K X.mg X.base k x ps 3 kf) (hg:Gl X x) (h1:PE X e1 (uH i)) (h2:PE X e2 (uH j)) (h3:PE X e3 (uH l)) (h4:PEf X G e4 (vH aNil))
  (hdb:(x==("__debug__" : Str))=false:=by decide) (he:starEach [e1,e2,e3,e4] X.env=(false,eval e1 X.env)::starEach [e2,e3,e4] X.env:=by rfl) (hpl:(backTo pos (starEach [e2,e3,e4] X.env)).any (·.1)=false:=by rfl)
  (s2:starEach [e2,e3,e4] X.env=(false,eval e2 X.env)::starEach [e3,e4] X.env:=by rfl) (s3:starEach [e3,e4] X.env=(false,eval e3 X.env)::starEach [e4] X.env:=by rfl) (s4:starEach [e4] X.env=(false,eval e4 X.env)::starEach [] X.env:=by rfl)
  (ht:∀ whole,isTrue (.Call (.Name x p) [e1,e2,e3,e4] [] pos) X.env whole=(do let v <-whole;standAt (Expr.Call (.Name x p) [e1,e2,e3,e4] [] pos).pos;holding [v] (truthy v)):=by intro _;rfl):
  PSd X G (.If (.UnaryOp .Not (.Call (.Name x p) [e1,e2,e3,e4] [] pos) p2) body [] p3) (zGe i j l kf):=by
 obtain ⟨f,fd,F,b,kp,hm⟩:=c.ex
 refine PS.wk (zJJ (zEG (zFd (tQ F W.room hg hm kp b .nil W.pass (dB h1 (dB h2 (dB h3 (dB h4 kY s4) s3) s2) he) hdb he hpl) ht)) (fun _ _ _ _ _ _ h=>h.elim:PSs X body (fun _ _ _=>False)) zBz) fun E σ H q=>?_
 obtain ⟨ρ,Hi,R,h⟩:=q
 unfold zGe at h
 split at h
 ·rename_i a b' c' q1 q2 q3
  obtain ⟨v1,u1,r1⟩:=R.slot i _ q1
  obtain ⟨v2,u2,r2⟩:=R.slot j _ q2
  obtain ⟨v3,u3,r3⟩:=R.slot l _ q3
  cases z:kf [a,b',c'] [] with
  | no=>rw [z] at h;exact h.elim
  | err c=>rw [z] at h;exact h.elim
  | ok r=>
   obtain ⟨t,es'⟩:=r
   rw [z] at h
   cases t with
   | false=>exact h.elim
   | true=>
    refine ⟨v1,u1,v2,u2,v3,u3,ρ,Hi,R,?_⟩
    show Out G Hi H (Res.ok []) _
    intro Hi1 H1 x1 ad n
    obtain ⟨n1,n2,xs,n3,n4⟩:=n
    refine ⟨rfl,Hi1,[v1,v2,v3],[a,b',c'],ad,xs,[],rfl,W.tb.ext (R.grow x1).ext,x1.s,.cons (r1.mono x1.i) (.cons (r2.mono x1.i) (.cons (r3.mono x1.i) .nil)),n3,n2,n4,true,es',z,fun Hi' H' xs' x2 h1 h2 h3=>⟨true,rfl,?_⟩⟩
    have x3:Ext Hi H Hi' H':=(zFv x1 n1 n3 n2).trans x2
    exact h σ Hi' H' x3.i (R.grow x3)
 ·exact h.elim
end
end L3
theorem PySem.W.Fast.tw17485306476699120832:True:=trivial
theorem PySem.W.Fast.tw6031636456066808201:True:=trivial
theorem PySem.W.Fast.tw7307945437226529972:True:=trivial
theorem PySem.W.Fast.tw12543334024955169923:True:=trivial
theorem PySem.W.Fast.tw16658850027181837972:True:=trivial
theorem PySem.W.Fast.tw13693457815768857722:True:=trivial
theorem PySem.W.Fast.tw17045885631603063612:True:=trivial
theorem PySem.W.Fast.tw8775842749447145120:True:=trivial
theorem PySem.W.Fast.tw2248899540221406714:True:=trivial
theorem PySem.W.Fast.tw11707571364877406748:True:=trivial
theorem PySem.W.Fast.tw13149089596971324453:True:=trivial
theorem PySem.W.Fast.tw11231442212621663672:True:=trivial
theorem PySem.W.Fast.tw7817663622140240033:True:=trivial
theorem PySem.W.Fast.tw2007142194873673375:True:=trivial
theorem PySem.W.Fast.tw15922009061669697763:True:=trivial
theorem PySem.W.Fast.tw4353448990730601263:True:=trivial
theorem PySem.W.Fast.tw2865322072021599959:True:=trivial
theorem PySem.W.Fast.tw1144247737357139131:True:=trivial
theorem PySem.W.Fast.tw1170980143265800737:True:=trivial
theorem PySem.W.Fast.tw8076500548490841681:True:=trivial
theorem PySem.W.Fast.tw5402010053685668068:True:=trivial
theorem PySem.W.Fast.tw17419638311143640143:True:=trivial
theorem PySem.W.Fast.tw12780455537857967424:True:=trivial
theorem PySem.W.Fast.tw9213418784874464082:True:=trivial
theorem PySem.W.Fast.tw1007209385498228116:True:=trivial
theorem PySem.W.Fast.tw4876283519895339512:True:=trivial
theorem PySem.W.Fast.tw15314467418217750020:True:=trivial
theorem PySem.W.Fast.tw16918729233258122425:True:=trivial
theorem PySem.W.Fast.tw15775149011458041312:True:=trivial
theorem PySem.W.Fast.tw17231040014359536648:True:=trivial
theorem PySem.W.Fast.tw14645286075545611070:True:=trivial
theorem PySem.W.Fast.tw4650081407062445304:True:=trivial
theorem PySem.W.Fast.tw766429090213773913:True:=trivial
theorem PySem.W.Fast.tw7194879157226999691:True:=trivial
theorem PySem.W.Fast.tw17389232473949465107:True:=trivial
theorem PySem.W.Fast.tw17908561602543247713:True:=trivial
theorem PySem.W.Fast.tw8272226747338252386:True:=trivial
theorem PySem.W.Fast.tw2763271122105040026:True:=trivial
theorem PySem.W.Fast.tw16560570054093094579:True:=trivial
theorem PySem.W.Fast.tw15626999123604961793:True:=trivial
theorem PySem.W.Fast.tw1784415113624549684:True:=trivial
theorem PySem.W.Fast.tw14129226853779869688:True:=trivial
theorem PySem.W.Fast.tw3629175203665901754:True:=trivial
theorem PySem.W.Fast.tw5237190176015806911:True:=trivial
theorem PySem.W.Fast.tw12397449674821340507:True:=trivial
theorem PySem.W.Fast.tw2146860210941150768:True:=trivial
theorem PySem.W.Fast.tw13095008124003791505:True:=trivial
theorem PySem.W.Fast.tw3539855554717925509:True:=trivial
theorem PySem.W.Fast.tw8401584870921634617:True:=trivial
theorem PySem.W.Fast.tw12040640009988453089:True:=trivial
theorem PySem.W.Fast.tw18161297980800675490:True:=trivial
theorem PySem.W.Fast.tw6219848573037357863:True:=trivial
theorem PySem.W.Fast.tw12147438601387699015:True:=trivial
theorem PySem.W.Fast.tw1239091696143716:True:=trivial
theorem PySem.W.Fast.tw12639878559337889118:True:=trivial
theorem PySem.W.Fast.tw12646290396594025251:True:=trivial
theorem PySem.W.Fast.tw1024286970157051556:True:=trivial
theorem PySem.W.Fast.tw11470446821292343441:True:=trivial
theorem PySem.W.Fast.tw9820562015644306320:True:=trivial
theorem PySem.W.Fast.tw6098388995353766473:True:=trivial
theorem PySem.W.Fast.tw14505423891340988369:True:=trivial
theorem PySem.W.Fast.tw7684451577280335558:True:=trivial
theorem PySem.W.Fast.tw15928855767397815695:True:=trivial
theorem PySem.W.Fast.tw15178356280616192498:True:=trivial
theorem PySem.W.Fast.tw5288886713433187238:True:=trivial
theorem PySem.W.Fast.tw5967793825445751104:True:=trivial
theorem PySem.W.Fast.tw8713122098335906130:True:=trivial
theorem PySem.W.Fast.tw8988266881618774331:True:=trivial
theorem PySem.W.Fast.tw899520420653568924:True:=trivial
theorem PySem.W.Fast.tw1479587383149886996:True:=trivial
theorem PySem.W.Fast.tw16048895500591892799:True:=trivial
theorem PySem.W.Fast.tw4559925841094254565:True:=trivial
theorem PySem.W.Fast.tw11645354595947654770:True:=trivial
theorem PySem.W.Fast.tw3029513451630356821:True:=trivial
theorem PySem.W.Fast.tw927955950763444041:True:=trivial
theorem PySem.W.Fast.tw4399131048454052924:True:=trivial
theorem PySem.W.Fast.tw11635569667509929304:True:=trivial
theorem PySem.W.Fast.tw6135953264527286348:True:=trivial
theorem PySem.W.Fast.tw14661468551222532614:True:=trivial
theorem PySem.W.Fast.tw11303080204898606487:True:=trivial
theorem PySem.W.Fast.tw8305432493715511955:True:=trivial
theorem PySem.W.Fast.tw1357149960759262982:True:=trivial
theorem PySem.W.Fast.tw14397721501688991247:True:=trivial
theorem PySem.W.Fast.tw238109399894242372:True:=trivial
theorem PySem.W.Fast.tw931386983341550397:True:=trivial
theorem PySem.W.Fast.tw14365636923111213543:True:=trivial
theorem PySem.W.Fast.tw16400125041679994850:True:=trivial
theorem PySem.W.Fast.tw6902598623811026962:True:=trivial
theorem PySem.W.Fast.tw3773430667166497430:True:=trivial
theorem PySem.W.Fast.tw3059100800893510955:True:=trivial
theorem PySem.W.Fast.tw13652822107236763977:True:=trivial
theorem PySem.W.Fast.tw16012797959253175721:True:=trivial
theorem PySem.W.Fast.tw2665154241644843710:True:=trivial
theorem PySem.W.Fast.tw1726582175062164712:True:=trivial
theorem PySem.W.Fast.tw596843644131897277:True:=trivial
theorem PySem.W.Fast.tw17223815495015979500:True:=trivial
theorem PySem.W.Fast.tw494800680022762177:True:=trivial
theorem PySem.W.Fast.tw7301172598851989841:True:=trivial
theorem PySem.W.Fast.tw7536077959841345637:True:=trivial
theorem PySem.W.Fast.tw12916298184565532005:True:=trivial
theorem PySem.W.Fast.tw3663267475230325398:True:=trivial
theorem PySem.W.Fast.tw13581616521039363842:True:=trivial
theorem PySem.W.Fast.tw918734677863769334:True:=trivial
theorem PySem.W.Fast.tw3861370003665863948:True:=trivial
theorem PySem.W.Fast.tw10156403627385871320:True:=trivial
theorem PySem.W.Fast.tw4244281722426795270:True:=trivial
theorem PySem.W.Fast.tw15265147832585169458:True:=trivial
theorem PySem.W.Fast.tw2081377528956895404:True:=trivial
theorem PySem.W.Fast.tw2104327612048127487:True:=trivial
theorem PySem.W.Fast.tw14032313679769602696:True:=trivial
theorem PySem.W.Fast.tw15896259897496597043:True:=trivial
theorem PySem.W.Fast.tw9951148396889232830:True:=trivial
theorem PySem.W.Fast.tw15258693328594584186:True:=trivial
theorem PySem.W.Fast.tw8464085039710861733:True:=trivial
theorem PySem.W.Fast.tw5893591917642391156:True:=trivial
theorem PySem.W.Fast.tw3247202041601494073:True:=trivial
theorem PySem.W.Fast.tw5189154457949722682:True:=trivial
theorem PySem.W.Fast.tw9893219906699888322:True:=trivial
theorem PySem.W.Fast.tw16970394227791496361:True:=trivial
theorem PySem.W.Fast.tw4403417287987746070:True:=trivial
theorem PySem.W.Fast.tw12993722471566363069:True:=trivial
theorem PySem.W.Fast.tw15224945257320292652:True:=trivial
theorem PySem.W.Fast.tw11640328194035432497:True:=trivial
theorem PySem.W.Fast.tw11475750366942259210:True:=trivial
theorem PySem.W.Fast.tw3448598227432219405:True:=trivial
theorem PySem.W.Fast.tw9116220998989479414:True:=trivial
theorem PySem.W.Fast.tw16956313528492788497:True:=trivial
theorem PySem.W.Fast.tw8554261723738544378:True:=trivial
theorem PySem.W.Fast.tw16150632451462794014:True:=trivial
theorem PySem.W.Fast.tw6216521976567234616:True:=trivial
theorem PySem.W.Fast.tw13549226346224403976:True:=trivial
theorem PySem.W.Fast.tw13003405275208500785:True:=trivial
theorem PySem.W.Fast.tw57238530990281285:True:=trivial
theorem PySem.W.Fast.tw6858139809676259494:True:=trivial
theorem PySem.W.Fast.tw5899875734762810986:True:=trivial
theorem PySem.W.Fast.tw9836365747611292716:True:=trivial
theorem PySem.W.Fast.tw8102520573625695620:True:=trivial
theorem PySem.W.Fast.tw13035591083761773385:True:=trivial
theorem PySem.W.Fast.tw17565879552440733797:True:=trivial
theorem PySem.W.Fast.tw7001893060256253049:True:=trivial
theorem PySem.W.Fast.tw17189008891604455747:True:=trivial
theorem PySem.W.Fast.tw13681860316387692634:True:=trivial
theorem PySem.W.Fast.tw8391837383189133309:True:=trivial
theorem PySem.W.Fast.tw10300897677832744856:True:=trivial
theorem PySem.W.Fast.tw13438490996052197230:True:=trivial
theorem PySem.W.Fast.tw6261526306850446935:True:=trivial
theorem PySem.W.Fast.tw7355995764602669669:True:=trivial
theorem PySem.W.Fast.tw4478739599902979061:True:=trivial
theorem PySem.W.Fast.tw3403458255885686824:True:=trivial
theorem PySem.W.Fast.tw9696157887766892492:True:=trivial
theorem PySem.W.Fast.tw12992085095480807622:True:=trivial
theorem PySem.W.Fast.tw9488209242222037481:True:=trivial
theorem PySem.W.Fast.tw3907847563118444891:True:=trivial
theorem PySem.W.Fast.tw918914870396389991:True:=trivial
theorem PySem.W.Fast.tw15478431767737894685:True:=trivial
theorem PySem.W.Fast.tw7700688131314114210:True:=trivial
theorem PySem.W.Fast.tw13553064633483519772:True:=trivial
theorem PySem.W.Fast.tw10157815752281045600:True:=trivial
theorem PySem.W.Fast.tw6070401698821460581:True:=trivial
theorem PySem.W.Fast.tw9448412839718454529:True:=trivial
theorem PySem.W.Fast.tw5495298945024964857:True:=trivial
theorem PySem.W.Fast.tw5800381508995663565:True:=trivial
theorem PySem.W.Fast.tw2812743237850011492:True:=trivial
theorem PySem.W.Fast.tw16271964550549792539:True:=trivial
theorem PySem.W.Fast.tw9759259135434636441:True:=trivial
theorem PySem.W.Fast.tw4771787292165424734:True:=trivial
theorem PySem.W.Fast.tw12359136315784037765:True:=trivial
theorem PySem.W.Fast.tw57261554957143706:True:=trivial
theorem PySem.W.Fast.tw1490378672586339899:True:=trivial
theorem PySem.W.Fast.tw12428128255581899576:True:=trivial
theorem PySem.W.Fast.tw6097950617562398708:True:=trivial
theorem PySem.W.Fast.tw17951228073871585401:True:=trivial
theorem PySem.W.Fast.tw12009570093705284042:True:=trivial
theorem PySem.W.Fast.tw99056762174708637:True:=trivial
theorem PySem.W.Fast.tw3392956826322122295:True:=trivial
theorem PySem.W.Fast.tw10408526462796661802:True:=trivial
theorem PySem.W.Fast.tw9108087393899345408:True:=trivial
theorem PySem.W.Fast.tw10299000353505002494:True:=trivial
theorem PySem.W.Fast.tw8001535458377273087:True:=trivial
theorem PySem.W.Fast.tw5966284788674652296:True:=trivial
theorem PySem.W.Fast.tw8652193266279927289:True:=trivial
theorem PySem.W.Fast.tw8512075683798522102:True:=trivial
theorem PySem.W.Fast.tw6988128210348164932:True:=trivial
theorem PySem.W.Fast.tw16082835671623722367:True:=trivial
theorem PySem.W.Fast.tw14332558266761729168:True:=trivial
theorem PySem.W.Fast.tw18372735766154624696:True:=trivial
theorem PySem.W.Fast.tw17090945643883335952:True:=trivial
theorem PySem.W.Fast.tw13871761170567122927:True:=trivial
theorem PySem.W.Fast.tw16915805278566107579:True:=trivial
theorem PySem.W.Fast.tw3232393512669370979:True:=trivial
theorem PySem.W.Fast.tw13914689962182250867:True:=trivial
theorem PySem.W.Fast.tw5440365826669243665:True:=trivial
theorem PySem.W.Fast.tw11416937428679276095:True:=trivial
theorem PySem.W.Fast.tw1183375312502195592:True:=trivial
theorem PySem.W.Fast.tw11287282280145716159:True:=trivial
theorem PySem.W.Fast.tw18419305758069141081:True:=trivial
theorem PySem.W.Fast.tw18056496219449083223:True:=trivial
theorem PySem.W.Fast.tw13079525633078153350:True:=trivial
theorem PySem.W.Fast.tw15917805570751164124:True:=trivial
theorem PySem.W.Fast.tw2666751723143291711:True:=trivial
theorem PySem.W.Fast.tw11734229297611584297:True:=trivial
theorem PySem.W.Fast.tw3331821918901088469:True:=trivial
theorem PySem.W.Fast.tw5418292311273671500:True:=trivial
theorem PySem.W.Fast.tw2563079204041048395:True:=trivial
theorem PySem.W.Fast.tw18059201157594881671:True:=trivial
theorem PySem.W.Fast.tw17146195620141893594:True:=trivial
theorem PySem.W.Fast.tw4830451288320234374:True:=trivial
theorem PySem.W.Fast.tw13854535751864267742:True:=trivial
theorem PySem.W.Fast.tw4506906296976282801:True:=trivial
theorem PySem.W.Fast.tw11821062352683785072:True:=trivial
theorem PySem.W.Fast.tw6119385564729260979:True:=trivial
theorem PySem.W.Fast.tw7303399833204463231:True:=trivial
theorem PySem.W.Fast.tw735960444564298292:True:=trivial
theorem PySem.W.Fast.tw2416838453488371738:True:=trivial
theorem PySem.W.Fast.tw10228451862653663066:True:=trivial
theorem PySem.W.Fast.tw6902839381114204248:True:=trivial
theorem PySem.W.Fast.tw4494452390802848377:True:=trivial
theorem PySem.W.Fast.tw6354915532078822427:True:=trivial
theorem PySem.W.Fast.tw13614869663793520247:True:=trivial
theorem PySem.W.Fast.tw12355220574553454431:True:=trivial
theorem PySem.W.Fast.tw5072810027698255713:True:=trivial
theorem PySem.W.Fast.tw1709509304587165643:True:=trivial
theorem PySem.W.Fast.tw4440007167153569496:True:=trivial
theorem PySem.W.Fast.tw12882032994033390873:True:=trivial
theorem PySem.W.Fast.tw13555834587115171120:True:=trivial
theorem PySem.W.Fast.tw15244925886496407007:True:=trivial
theorem PySem.W.Fast.tw18254182411407572263:True:=trivial
theorem PySem.W.Fast.tw2558752921165010628:True:=trivial
theorem PySem.W.Fast.tw1281175181042221103:True:=trivial
theorem PySem.W.Fast.tw11900409043563738688:True:=trivial
theorem PySem.W.Fast.tw11307947665889589133:True:=trivial
theorem PySem.W.Fast.tw7870643875983045703:True:=trivial
theorem PySem.W.Fast.tw9067773541699892013:True:=trivial
theorem PySem.W.Fast.tw14458829847428427087:True:=trivial
theorem PySem.W.Fast.tw14488699733757247583:True:=trivial
theorem PySem.W.Fast.tw1686968031224115985:True:=trivial
theorem PySem.W.Fast.tw13743433490669261572:True:=trivial
theorem PySem.W.Fast.tw17985690316500107513:True:=trivial
theorem PySem.W.Fast.tw16486644235447168753:True:=trivial
theorem PySem.W.Fast.tw11519531260958019577:True:=trivial
theorem PySem.W.Fast.tw14645864490261979755:True:=trivial
theorem PySem.W.Fast.tw9142550840100434349:True:=trivial
theorem PySem.W.Fast.tw2071593440273135668:True:=trivial
theorem PySem.W.Fast.tw312737883429495554:True:=trivial
theorem PySem.W.Fast.tw6083508427430708353:True:=trivial
theorem PySem.W.Fast.tw11013777679149697154:True:=trivial
theorem PySem.W.Fast.tw14626891612315969400:True:=trivial
theorem PySem.W.Fast.tw10273418457694486425:True:=trivial
theorem PySem.W.Fast.tw14793380943405144826:True:=trivial
theorem PySem.W.Fast.tw58704072871396482:True:=trivial
theorem PySem.W.Fast.tw15995782054204693018:True:=trivial
theorem PySem.W.Fast.tw15837930151907338073:True:=trivial
theorem PySem.W.Fast.tw9049763180990229024:True:=trivial
theorem PySem.W.Fast.tw12603293782647240343:True:=trivial
theorem PySem.W.Fast.tw3332303860859422098:True:=trivial
theorem PySem.W.Fast.tw11900001739670112916:True:=trivial
theorem PySem.W.Fast.tw3407477514616250234:True:=trivial
theorem PySem.W.Fast.tw6664541997448976148:True:=trivial
theorem PySem.W.Fast.tw14153426736912327393:True:=trivial
theorem PySem.W.Fast.tw16630526405865209750:True:=trivial
theorem PySem.W.Fast.tw17947275961388381610:True:=trivial
theorem PySem.W.Fast.tw5027111679523484438:True:=trivial
theorem PySem.W.Fast.tw7925325092994034343:True:=trivial
theorem PySem.W.Fast.tw7486591805179692462:True:=trivial
theorem PySem.W.Fast.tw17731224582216918257:True:=trivial
theorem PySem.W.Fast.tw16389994229226738636:True:=trivial
theorem PySem.W.Fast.tw8353140990748535066:True:=trivial
theorem PySem.W.Fast.tw13335072670346521072:True:=trivial
theorem PySem.W.Fast.tw13381694204662276810:True:=trivial
theorem PySem.W.Fast.tw13270769771783065075:True:=trivial
theorem PySem.W.Fast.tw15306865557464520998:True:=trivial
theorem PySem.W.Fast.tw1314184211295543247:True:=trivial
theorem PySem.W.Fast.tw9521621160731687049:True:=trivial
theorem PySem.W.Fast.tw17818120961992401174:True:=trivial
theorem PySem.W.Fast.tw10769182216373342339:True:=trivial
theorem PySem.W.Fast.tw12639419343001870579:True:=trivial
theorem PySem.W.Fast.tw18234002518235913761:True:=trivial
theorem PySem.W.Fast.tw13809227360445791448:True:=trivial
theorem PySem.W.Fast.tw5261451034804719469:True:=trivial
theorem PySem.W.Fast.tw1425634201591984549:True:=trivial
theorem PySem.W.Fast.tw1715926558887846435:True:=trivial
theorem PySem.W.Fast.tw7521652931803774821:True:=trivial
theorem PySem.W.Fast.tw2369281775721570201:True:=trivial
theorem PySem.W.Fast.tw11396976219766783228:True:=trivial
theorem PySem.W.Fast.tw3345505094828456347:True:=trivial
theorem PySem.W.Fast.tw3179522290684006583:True:=trivial
theorem PySem.W.Fast.tw11265229695359403388:True:=trivial
theorem PySem.W.Fast.tw69136364949208037:True:=trivial
theorem PySem.W.Fast.tw549129683354852526:True:=trivial
theorem PySem.W.Fast.tw1148187373502878082:True:=trivial
theorem PySem.W.Fast.tw3381081459076527705:True:=trivial
theorem PySem.W.Fast.tw3015133641966525830:True:=trivial
theorem PySem.W.Fast.tw18338738151021150570:True:=trivial
theorem PySem.W.Fast.tw520755770339604062:True:=trivial
theorem PySem.W.Fast.tw17381448458804121334:True:=trivial
theorem PySem.W.Fast.tw5149517390487895653:True:=trivial
theorem PySem.W.Fast.tw3814439580106929660:True:=trivial
theorem PySem.W.Fast.tw10473013833710065122:True:=trivial
theorem PySem.W.Fast.tw7866992256310548699:True:=trivial
theorem PySem.W.Fast.tw3092406979485584299:True:=trivial
theorem PySem.W.Fast.tw11791548503497801456:True:=trivial
theorem PySem.W.Fast.tw13274854992453946304:True:=trivial
theorem PySem.W.Fast.tw4397531342658404894:True:=trivial
theorem PySem.W.Fast.tw8916861819105667068:True:=trivial
theorem PySem.W.Fast.tw14721670388520579354:True:=trivial
theorem PySem.W.Fast.tw381028432393271280:True:=trivial
theorem PySem.W.Fast.tw3711449303430976172:True:=trivial
theorem PySem.W.Fast.tw2180379915056865621:True:=trivial
theorem PySem.W.Fast.tw4702112330867328369:True:=trivial
theorem PySem.W.Fast.tw10348526663080016900:True:=trivial
theorem PySem.W.Fast.tw12538225194706902730:True:=trivial
theorem PySem.W.Fast.tw14979055408385610816:True:=trivial
theorem PySem.W.Fast.tw4324341016951124592:True:=trivial
theorem PySem.W.Fast.tw12645674327185218343:True:=trivial
theorem PySem.W.Fast.tw3674471071666120639:True:=trivial
theorem PySem.W.Fast.tw15923203115465119631:True:=trivial
theorem PySem.W.Fast.tw2877914726372089721:True:=trivial
theorem PySem.W.Fast.tw10511487684688295110:True:=trivial
theorem PySem.W.Fast.tw2073957556147288595:True:=trivial
theorem PySem.W.Fast.tw10802159928466685761:True:=trivial
theorem PySem.W.Fast.tw4036089635224190549:True:=trivial
theorem PySem.W.Fast.tw13255311789040413859:True:=trivial
theorem PySem.W.Fast.tw11607463427809843598:True:=trivial
theorem PySem.W.Fast.tw8680756166903233316:True:=trivial
theorem PySem.W.Fast.tw1657800431811586996:True:=trivial
theorem PySem.W.Fast.tw17259773180716051767:True:=trivial
theorem PySem.W.Fast.tw16471942317364576964:True:=trivial
theorem PySem.W.Fast.tw2995391517681803341:True:=trivial
theorem PySem.W.Fast.tw16950478696343296367:True:=trivial
theorem PySem.W.Fast.tw9620366438509788466:True:=trivial
theorem PySem.W.Fast.tw8684310897570395063:True:=trivial
theorem PySem.W.Fast.tw7270412252776726440:True:=trivial
theorem PySem.W.Fast.tw1703953893414385808:True:=trivial
theorem PySem.W.Fast.tw2781932632823462405:True:=trivial
theorem PySem.W.Fast.tw5034252092639682247:True:=trivial
theorem PySem.W.Fast.tw5866073134618498712:True:=trivial
theorem PySem.W.Fast.tw2997794073562402474:True:=trivial
theorem PySem.W.Fast.tw10047355508160548512:True:=trivial
theorem PySem.W.Fast.tw7498274884938636390:True:=trivial
theorem PySem.W.Fast.tw4785362052332018206:True:=trivial
theorem PySem.W.Fast.tw10185586193581934691:True:=trivial
theorem PySem.W.Fast.tw9480577673347430633:True:=trivial
theorem PySem.W.Fast.tw15469856968287427049:True:=trivial
theorem PySem.W.Fast.tw14523087793139512292:True:=trivial
theorem PySem.W.Fast.tw6256327216401065530:True:=trivial
theorem PySem.W.Fast.tw13215916146020721594:True:=trivial
theorem PySem.W.Fast.tw9865007201982146108:True:=trivial
theorem PySem.W.Fast.tw8258759954846003884:True:=trivial
theorem PySem.W.Fast.tw8506699702392858676:True:=trivial
theorem PySem.W.Fast.tw14051090624826541617:True:=trivial
theorem PySem.W.Fast.tw8546767375674011376:True:=trivial
theorem PySem.W.Fast.tw3781731448054458047:True:=trivial
theorem PySem.W.Fast.tw10624040679012992153:True:=trivial
theorem PySem.W.Fast.tw2792517639414862825:True:=trivial
theorem PySem.W.Fast.tw2007605973235952958:True:=trivial
theorem PySem.W.Fast.tw13171011967660634497:True:=trivial
theorem PySem.W.Fast.tw12209165413517576189:True:=trivial
theorem PySem.W.Fast.tw14037182712490626174:True:=trivial
theorem PySem.W.Fast.tw336325816178181964:True:=trivial
theorem PySem.W.Fast.tw9656245061767710801:True:=trivial
theorem PySem.W.Fast.tw10364892967190030925:True:=trivial
theorem PySem.W.Fast.tw10811962266641676606:True:=trivial
theorem PySem.W.Fast.tw3580732354053511886:True:=trivial
theorem PySem.W.Fast.tw3795123410559235124:True:=trivial
theorem PySem.W.Fast.tw13827461166185591931:True:=trivial
theorem PySem.W.Fast.tw15169335867901750987:True:=trivial
theorem PySem.W.Fast.tw1759907567975421293:True:=trivial
theorem PySem.W.Fast.tw2583264893437214960:True:=trivial
theorem PySem.W.Fast.tw5331548067663369087:True:=trivial
theorem PySem.W.Fast.tw17391508070521539965:True:=trivial
theorem PySem.W.Fast.tw12428724678015826943:True:=trivial
theorem PySem.W.Fast.tw4429941366770935577:True:=trivial
theorem PySem.W.Fast.tw12571210903279467141:True:=trivial
theorem PySem.W.Fast.tw16933955112092945956:True:=trivial
theorem PySem.W.Fast.tw14982205866593241003:True:=trivial
theorem PySem.W.Fast.tw10836532937101864409:True:=trivial
theorem PySem.W.Fast.tw16815804952225122175:True:=trivial
theorem PySem.W.Fast.tw15409195359612693654:True:=trivial
theorem PySem.W.Fast.tw12037669249214916990:True:=trivial
theorem PySem.W.Fast.tw13939664720328564293:True:=trivial
theorem PySem.W.Fast.tw10127664574791261671:True:=trivial
theorem PySem.W.Fast.tw5465238215723435484:True:=trivial
theorem PySem.W.Fast.tw231111688403631271:True:=trivial
theorem PySem.W.Fast.tw11599574117080422612:True:=trivial
theorem PySem.W.Fast.tw2707454752896591932:True:=trivial
theorem PySem.W.Fast.tw12289699215509864733:True:=trivial
theorem PySem.W.Fast.tw17438277505641095952:True:=trivial
theorem PySem.W.Fast.tw12331627061306782615:True:=trivial
theorem PySem.W.Fast.tw10726280209966080072:True:=trivial
theorem PySem.W.Fast.tw4371318651439233361:True:=trivial
theorem PySem.W.Fast.tw5667780608382190289:True:=trivial
theorem PySem.W.Fast.tw1569833686605680084:True:=trivial
theorem PySem.W.Fast.tw9043986491335386574:True:=trivial
theorem PySem.W.Fast.tw3490591333010195412:True:=trivial
theorem PySem.W.Fast.tw12065330113273912214:True:=trivial
theorem PySem.W.Fast.tw9274911022046931976:True:=trivial
theorem PySem.W.Fast.tw15187825393294535387:True:=trivial
theorem PySem.W.Fast.tw8817413857921462383:True:=trivial
theorem PySem.W.Fast.tw8934130734446390240:True:=trivial
theorem PySem.W.Fast.tw12242166661750730699:True:=trivial
theorem PySem.W.Fast.tw13756489425404274075:True:=trivial
theorem PySem.W.Fast.tw17313703518309899333:True:=trivial
namespace Lw
open L3 PySem
def tbT:List Str:=[]
def zQb:List (Str×List Str):=[]
def gF:D:=(.tup [(.int 0),(.int 1)])
def d_ACROSS:D:=(.int 0)
def d_UP:D:=(.int 1)
def aT:List (Str×Str):=[("row", "back"),("back", "row"),("even", "lack"),("lack", "even"),("part", "part"),("half", "half")]
def d_WEIGHTED:D:=(.tup [(.str "even"),(.str "lack")])
def d_HALF:D:=(.tup [(.int 1),(.int 2)])
abbrev oK:Sv:=(dP 1 (aF 2))
abbrev oM:Sv:=(aY (dP 0 (aF 1)) oK)
abbrev nT:Sv:=(aY (dP 2 (eOp zEs (aF 0) (aF 1))) oM)
abbrev nX:Sv:=(gP (aF 0))
abbrev nQ:Sv:=(aY (fA (dQ (eOp oNe (aF 1) (eC (.int 0)))) nT) nX)
abbrev oD:Sv:=(aY (dP 1 (eB zJx (aB (aF 1) aNil))) nQ)
def cW:Mir:=fn 2 3 (aY (dP 0 (eB zJx (aB (aF 0) aNil))) oD)
def bM:Mir:=fn 1 1 (gP (rK (aB (aF 0) (aB (eC (.int 1)) aNil))))
def jA:Mir:=fn 2 2 (gP (eOp oLt (eOp oV (eOp oIx (aF 0) (eC (.int 0))) (eOp oIx (aF 1) (eC (.int 1)))) (eOp oV (eOp oIx (aF 1) (eC (.int 0))) (eOp oIx (aF 0) (eC (.int 1))))))
abbrev wD:Sv:=(dP 1 (eOp oV (aF 1) (eOp oIx (aF 2) (eC (.int 1)))))
abbrev zBb:Sv:=(dP 1 (eC (.int 1)))
abbrev sI:Sv:=(rJ (qL (aF 0)) (gName 2) wD)
def iG:List D->Res (List Int):=yS zBb sI
def dJ:Mir:=fn 1 1 (sIf (dQ (eUn (oY aT) (aF 0))) (kD "BadWay" (aB (eC (.str "no such way")) aNil)) sNext)
abbrev qC:Sv:=(sIf (dQ (eOp oLt (aF 1) (eC (.int 0)))) (kD "BadClaim" (aB (eC (.str "a claim is below nought")) aNil)) sNext)
abbrev pU:Sv:=(rJ (qL (aF 0)) (gName 1) qC)
def dE:Mir:=fn 1 2 (aY (sIf (dQ (eOp oEq (eB kP (aB (aF 0) aNil)) (eC (.int 0)))) (kD "BadClaim" (aB (eC (.str "there is no claim")) aNil)) sNext) pU)
abbrev nK:Sv:=(sIf (zDb (dQ (eOp oLt (aF 4) (eC (.int 1)))) (dQ (eOp oGt (aF 4) (eOp zLA (eC (.int 10)) (eC (.int 6)))))) (kD "BadWeights" (aB (eC (.str "a weight is not from 1 to 10 ** 6")) aNil)) sNext)
abbrev nR:Sv:=(rJ (qL (aF 1)) (gName 4) nK)
abbrev oP:Sv:=(aY (sIf (dQ (eOp oNe (eB kP (aB (aF 1) aNil)) (aF 3))) (kD "BadWeights" (aB (eC (.str "more or fewer weights than are due")) aNil)) sNext) nR)
def bJ:Mir:=fn 3 5 (aY (dP 3 (eIf (dQ (eOp oIn (aF 0) (eC d_WEIGHTED))) (aF 2) (eC (.int 0)))) oP)
abbrev rP:Sv:=(gP (eC (.int 0)))
def eU:Mir:=fn 2 2 (aY (sIf (dQ (eOp oLt (aF 1) (eB kP (aB (aF 0) aNil)))) (gP (eOp oIx (aF 0) (aF 1))) sNext) rP)
abbrev zAz:Sv:=(dP 3 (aF 4))
abbrev zAm:Sv:=(aY (dP 2 (aF 3)) zAz)
abbrev zV:Sv:=(aY (dP 4 (eOp zEs (aF 2) (aF 3))) zAm)
abbrev zAW:Sv:=(gP (rK (aB (eOp zHs (aF 0) (aF 2)) (aB (eOp zHs (aF 1) (aF 2)) aNil))))
abbrev qD:Sv:=(aY (sIf (dQ (eOp oLt (aF 1) (eC (.int 0)))) (dP 2 (eOp sD (eC (.int 0)) (aF 2))) sNext) zAW)
abbrev zAK:Sv:=(aY (fA (dQ (eOp oGt (aF 3) (eC (.int 0)))) zV) qD)
abbrev zAg:Sv:=(aY (dP 3 (eB zJx (aB (aF 1) aNil))) zAK)
def cA:Mir:=fn 2 5 (aY (dP 2 (eB zJx (aB (aF 0) aNil))) zAg)
def dA:Mir:=fn 2 2 (gP (eOp oLt (eOp oV (eOp oIx (aF 0) (eC (.int 0))) (eOp oIx (aF 1) (eC (.int 1)))) (eOp oV (eOp oIx (aF 1) (eC (.int 0))) (eOp oIx (aF 0) (eC (.int 1))))))
abbrev uI:Sv:=(zEr 2 (eOp oIx (eF (vH (aB (eOp zEs (eOp zHs (aF 4) (eC (.int 7))) (eC (.int 13))) (aB (eOp zEs (eOp zHs (aF 4) (eC (.int 97))) (eC (.int 4))) (aB (eOp zEs (aF 3) (eOp zLA (eC (.int 10)) (eC (.int 30)))) aNil))))) (eOp oIx (eF (vH (aB (eC (.int 0)) (aB (eC (.int 0)) (aB (eC (.int 1)) (aB (eC (.int 2)) aNil)))))) (eOp zEs (aF 1) (eC (.int 4))))))
abbrev uV:Sv:=(aY (dP 4 (eOp zEs (eOp zHk (eOp oV (aF 3) (eC (.int 48271))) (eC (.int 17))) (eC (.int 2147483647)))) uI)
abbrev lT:Sv:=(gT 2)
abbrev vP:Sv:=(aY (rJ (qL (aF 0)) (gName 3) uV) lT)
def fX:Mir:=fn 2 5 (aY (zEq 2 (vH aNil)) vP)
abbrev zIo:Sv:=(gP (rK (aB (eOp zHs (aF 0) (aF 2)) (aB (eOp zHs (aF 1) (aF 2)) aNil))))
abbrev zIu:Sv:=(aY (sIf (dQ (eOp oLt (aF 1) (eC (.int 0)))) (dP 2 (eUn zHo (aF 2))) sNext) zIo)
abbrev zIr:Sv:=(aY (dP 2 (aP cW (aB (aF 0) (aB (aF 1) aNil)))) zIu)
def iC:Mir:=fn 2 3 (aY (sIf (dQ (eOp oEq (aF 1) (eC (.int 0)))) (kD "NoFraction" (aB (eC (.str "the bottom is nought")) aNil)) sNext) zIr)
def jL:Mir:=fn 2 2 (gP (eIf (dQ (aP jA (aB (aF 0) (aB (aF 1) aNil)))) (aF 0) (aF 1)))
abbrev rO:Sv:=(sIf (dQ (aP jA (aB (eOp oIx (aF 3) (eC d_UP)) (aB (eOp oIx (aF 2) (eC d_UP)) aNil)))) (kD "BadLine" (aB (eC (.str "a y is less than the one ahead")) aNil)) sNext)
abbrev tW:Sv:=(aY (sIf (mW (dQ (aP jA (aB (eOp oIx (aF 2) (eC d_ACROSS)) (aB (eOp oIx (aF 3) (eC d_ACROSS)) aNil))))) (kD "BadLine" (aB (eC (.str "an x is not greater than the one ahead")) aNil)) sNext) rO)
abbrev vL:Sv:=(aY (dP 3 (eOp oIx (aF 0) (aF 1))) tW)
abbrev uS:Sv:=(aY (dP 2 (eOp oIx (aF 0) (eOp sD (aF 1) (eC (.int 1))))) vL)
abbrev uW:Sv:=(rJ (zBj (aB (eC (.int 1)) (aB (eB kP (aB (aF 0) aNil)) aNil))) (gName 1) uS)
abbrev uR:Sv:=(aY (sIf (dQ (eOp oNe (eOp oIx (aF 0) (eC (.int 0))) (rK (aB (eC gF) (aB (eC gF) aNil))))) (kD "BadLine" (aB (eC (.str "the first point is not nought and nought")) aNil)) sNext) uW)
def fS:Mir:=fn 1 4 (aY (sIf (dQ (eOp oEq (eB kP (aB (aF 0) aNil)) (eC (.int 0)))) (kD "BadLine" (aB (eC (.str "a line has a point")) aNil)) sNext) uR)
abbrev zEm:Sv:=(zAE (aP bJ (aB (aF 0) (aB (aF 1) (aB (eB kP (aB (aF 2) aNil)) aNil)))))
abbrev zDT:Sv:=(aY (zAE (aP dE (aB (aF 2) aNil))) zEm)
def nM:Mir:=fn 3 3 (aY (zAE (aP dJ (aB (aF 0) aNil))) zDT)
abbrev qW:Sv:=(gP (eUn (sZ aT) (aF 0)))
def cY:Mir:=fn 1 1 (aY (zAE (aP dJ (aB (aF 0) aNil))) qW)
abbrev uO:Sv:=(zEr 2 (aP bM (aB (aF 1) aNil)))
abbrev lY:Sv:=(aY (zIR 1 zCb (aF 3)) uO)
abbrev tZ:Sv:=(gT 2)
abbrev uE:Sv:=(aY (rJ (qL (aF 0)) (gName 3) lY) tZ)
abbrev vM:Sv:=(aY (zEq 2 (vH (aB (eC gF) aNil))) uE)
def eH:Mir:=fn 1 4 (aY (dP 1 (eC (.int 0))) vM)
abbrev iB:Sv:=(sIf (tFrzB (dQ (aP jA (aB (eOp oIx (aF 1) (eUn zHo (eC (.int 1)))) (aB (aF 2) aNil))))) (zEr 1 (aF 2)) sNext)
abbrev nF:Sv:=(gT 1)
abbrev mJ:Sv:=(aY (rJ (qL (aF 0)) (gName 2) iB) nF)
def cM:Mir:=fn 1 3 (aY (zEq 1 (fSl (aF 0) oN (oS (eC (.int 1))))) mJ)
def dN:Mir:=fn 2 2 (gP (aP cA (aB (eOp zHk (eOp oV (eOp oIx (aF 0) (eC (.int 0))) (eOp oIx (aF 1) (eC (.int 1)))) (eOp oV (eOp oIx (aF 1) (eC (.int 0))) (eOp oIx (aF 0) (eC (.int 1))))) (aB (eOp oV (eOp oIx (aF 0) (eC (.int 1))) (eOp oIx (aF 1) (eC (.int 1)))) aNil))))
def bE:Mir:=fn 2 2 (gP (aP cA (aB (eOp sD (eOp oV (eOp oIx (aF 0) (eC (.int 0))) (eOp oIx (aF 1) (eC (.int 1)))) (eOp oV (eOp oIx (aF 1) (eC (.int 0))) (eOp oIx (aF 0) (eC (.int 1))))) (aB (eOp oV (eOp oIx (aF 0) (eC (.int 1))) (eOp oIx (aF 1) (eC (.int 1)))) aNil))))
def aZ:Mir:=fn 2 2 (gP (aP cA (aB (eOp oV (eOp oIx (aF 0) (eC (.int 0))) (eOp oIx (aF 1) (eC (.int 0)))) (aB (eOp oV (eOp oIx (aF 0) (eC (.int 1))) (eOp oIx (aF 1) (eC (.int 1)))) aNil))))
abbrev nA:Sv:=(sIf (zDb (mW (dQ (zJn "int" (aF 1)))) (dQ (zJn "bool" (aF 1)))) (gP (eC (.bl false))) sNext)
abbrev mM:Sv:=(gP (zNN (eOp oGt (eOp oIx (aF 0) (eC (.int 1))) (eC (.int 0))) (eOp oEq (aP cA (aB (eOp oIx (aF 0) (eC (.int 0))) (aB (eOp oIx (aF 0) (eC (.int 1))) aNil))) (aF 0))))
abbrev mI:Sv:=(aY (rJ (qL (aF 0)) (gName 1) nA) mM)
def cB:Mir:=fn 1 2 (aY (sIf (zDb (mW (dQ (zJn "tuple" (aF 0)))) (dQ (eOp oNe (eB kP (aB (aF 0) aNil)) (eC (.int 2))))) (gP (eC (.bl false))) sNext) mI)
abbrev zCh:Sv:=(gP (aF 0))
def kI:Mir:=fn 2 2 (aY (sIf (dQ (aP dA (aB (aF 1) (aB (aF 0) aNil)))) (gP (aF 1)) sNext) zCh)
abbrev uF:Sv:=(sIf (tFrzB (dQ (eOp sA (aF 5) (aF 2)))) (zEr 2 (aF 5)) sNext)
abbrev uC:Sv:=(aY (dP 5 (aP cA (aB (aF 4) (aB (aF 3) aNil)))) uF)
abbrev mB:Sv:=(gT 2)
abbrev vO:Sv:=(aY (rJ (zHG (aB (aF 0) (aB (aF 1) aNil))) (zIn (qR (gName 3) (qR (gName 4) zIb))) uC) mB)
def fU:Mir:=fn 2 6 (aY (zEq 2 (vH (aB (rK (aB (eC (.int 0)) (aB (eC (.int 1)) aNil))) aNil))) vO)
def lU:Mir:=fn 2 2 (gP (aP iC (aB (eOp zHk (eOp oV (eOp oIx (aF 0) (eC (.int 0))) (eOp oIx (aF 1) (eC (.int 1)))) (eOp oV (eOp oIx (aF 1) (eC (.int 0))) (eOp oIx (aF 0) (eC (.int 1))))) (aB (eOp oV (eOp oIx (aF 0) (eC (.int 1))) (eOp oIx (aF 1) (eC (.int 1)))) aNil))))
def cI:Mir:=fn 2 2 (gP (aP iC (aB (eOp sD (eOp oV (eOp oIx (aF 0) (eC (.int 0))) (eOp oIx (aF 1) (eC (.int 1)))) (eOp oV (eOp oIx (aF 1) (eC (.int 0))) (eOp oIx (aF 0) (eC (.int 1))))) (aB (eOp oV (eOp oIx (aF 0) (eC (.int 1))) (eOp oIx (aF 1) (eC (.int 1)))) aNil))))
def dL:Mir:=fn 2 2 (gP (aP iC (aB (eOp oV (eOp oIx (aF 0) (eC (.int 0))) (eOp oIx (aF 1) (eC (.int 0)))) (aB (eOp oV (eOp oIx (aF 0) (eC (.int 1))) (eOp oIx (aF 1) (eC (.int 1)))) aNil))))
def tL:Mir:=fn 2 2 (gP (aP iC (aB (eOp oV (eOp oIx (aF 0) (eC (.int 0))) (eOp oIx (aF 1) (eC (.int 1)))) (aB (eOp oV (eOp oIx (aF 0) (eC (.int 1))) (eOp oIx (aF 1) (eC (.int 0)))) aNil))))
def dG:Mir:=fn 2 2 (jO (qI (zHG (aB (aF 1) (aB (aF 0) aNil))) (aP iC (aB (aF 2) (aB (aF 3) aNil)))))
abbrev vJ:Sv:=(dP 3 (eOp oEq (aP aZ (aB (aF 5) (aB (aF 6) aNil))) (aP aZ (aB (aF 7) (aB (aF 4) aNil)))))
abbrev vF:Sv:=(aY (dP 7 (aP bE (aB (eOp oIx (eOp oIx (aF 0) (eOp zHk (aF 2) (eC (.int 1)))) (eC (.int 1))) (aB (eOp oIx (eOp oIx (aF 0) (aF 2)) (eC (.int 1))) aNil)))) vJ)
abbrev vD:Sv:=(aY (dP 6 (aP bE (aB (eOp oIx (eOp oIx (aF 0) (eOp zHk (aF 2) (eC (.int 1)))) (eC (.int 0))) (aB (eOp oIx (eOp oIx (aF 0) (aF 2)) (eC (.int 0))) aNil)))) vF)
abbrev uG:Sv:=(aY (dP 5 (aP bE (aB (eOp oIx (eOp oIx (aF 0) (aF 2)) (eC (.int 1))) (aB (eOp oIx (eOp oIx (aF 0) (eOp sD (aF 2) (eC (.int 1)))) (eC (.int 1))) aNil)))) vD)
abbrev eV:Sv:=(sIf (mW (dQ (aF 3))) (zEr 1 (eOp oIx (aF 0) (aF 2))) sNext)
abbrev tX:Sv:=(aY (sIf (dQ (eOp oLt (eOp zHk (aF 2) (eC (.int 1))) (eB kP (aB (aF 0) aNil)))) (aY (dP 4 (aP bE (aB (eOp oIx (eOp oIx (aF 0) (aF 2)) (eC (.int 0))) (aB (eOp oIx (eOp oIx (aF 0) (eOp sD (aF 2) (eC (.int 1)))) (eC (.int 0))) aNil)))) uG) sNext) eV)
abbrev vK:Sv:=(aY (dP 3 (eC (.bl false))) tX)
abbrev rS:Sv:=(gP (eB zIX (aB (aF 1) aNil)))
abbrev uK:Sv:=(aY (rJ (zBj (aB (eC (.int 1)) (aB (eB kP (aB (aF 0) aNil)) aNil))) (gName 2) vK) rS)
def gA:Mir:=fn 1 8 (aY (zEq 1 (vH (aB (eOp oIx (aF 0) (eC (.int 0))) aNil))) uK)
abbrev xN:Sv:=(gP (aP dN (aB (eOp oIx (eOp oIx (aF 0) (eOp sD (aF 2) (eC (.int 1)))) (eC (.int 1))) (aB (aP aZ (aB (aF 5) (aB (aF 4) aNil))) aNil))))
abbrev xT:Sv:=(aY (dP 5 (aP aZ (aB (aP bE (aB (aF 1) (aB (eOp oIx (eOp oIx (aF 0) (eOp sD (aF 2) (eC (.int 1)))) (eC (.int 0))) aNil))) (aB (rK (aB (eOp oIx (aF 3) (eC (.int 1))) (aB (eOp oIx (aF 3) (eC (.int 0))) aNil))) aNil)))) xN)
abbrev wP:Sv:=(aY (dP 4 (aP bE (aB (eOp oIx (eOp oIx (aF 0) (aF 2)) (eC (.int 1))) (aB (eOp oIx (eOp oIx (aF 0) (eOp sD (aF 2) (eC (.int 1)))) (eC (.int 1))) aNil)))) xT)
abbrev zC:Sv:=(sIf (zDP (dQ (eOp oGt (aF 2) (eC (.int 0)))) (dQ (aP dA (aB (aF 1) (aB (eOp oIx (eOp oIx (aF 0) (aF 2)) (eC (.int 0))) aNil))))) (aY (dP 3 (aP bE (aB (eOp oIx (eOp oIx (aF 0) (aF 2)) (eC (.int 0))) (aB (eOp oIx (eOp oIx (aF 0) (eOp sD (aF 2) (eC (.int 1)))) (eC (.int 0))) aNil)))) wP) sNext)
abbrev wW:Sv:=(aY (sIf (dQ (eOp oEq (eOp oIx (eOp oIx (aF 0) (aF 2)) (eC (.int 0))) (aF 1))) (gP (eOp oIx (eOp oIx (aF 0) (aF 2)) (eC (.int 1)))) sNext) zC)
abbrev wZ:Sv:=(gP (eOp oIx (eOp oIx (aF 0) (eUn zHo (eC (.int 1)))) (eC (.int 1))))
def eE:Mir:=fn 2 6 (aY (rJ (zBy (aB (eB kP (aB (aF 0) aNil)) aNil)) (gName 2) wW) wZ)
abbrev yZ:Sv:=(dP 1 (aP dN (aB (aF 1) (aB (aF 2) aNil))))
abbrev nS:Sv:=(gP (aF 1))
abbrev yD:Sv:=(aY (rJ (qL (aF 0)) (gName 2) yZ) nS)
def gW:Mir:=fn 1 3 (aY (dP 1 (rK (aB (eC (.int 0)) (aB (eC (.int 1)) aNil)))) yD)
def eT:Mir:=fn 3 3 (jO (qI (zHG (aB (aF 0) (aB (aF 1) aNil))) (aP kI (aB (rK (aB (aF 4) (aB (eC (.int 1)) aNil))) (aB (aP aZ (aB (rK (aB (aF 3) (aB (eC (.int 1)) aNil))) (aB (aF 2) aNil))) aNil)))))
abbrev vB:Sv:=(gP (eOp oEq (aP dL (aB (aF 3) (aB (aF 6) aNil))) (aP dL (aB (aF 4) (aB (aF 5) aNil)))))
abbrev vQ:Sv:=(aY (dP 6 (aP cI (aB (eOp oIx (aF 2) (eC d_ACROSS)) (aB (eOp oIx (aF 1) (eC d_ACROSS)) aNil)))) vB)
abbrev uJ:Sv:=(aY (dP 5 (aP cI (aB (eOp oIx (aF 1) (eC d_ACROSS)) (aB (eOp oIx (aF 0) (eC d_ACROSS)) aNil)))) vQ)
abbrev uY:Sv:=(aY (dP 4 (aP cI (aB (eOp oIx (aF 2) (eC d_UP)) (aB (eOp oIx (aF 1) (eC d_UP)) aNil)))) uJ)
def fR:Mir:=fn 3 7 (aY (dP 3 (aP cI (aB (eOp oIx (aF 1) (eC d_UP)) (aB (eOp oIx (aF 0) (eC d_UP)) aNil)))) uY)
abbrev zDJ:Sv:=(gP (eB zIX (aB (eF (kK (zNS (aF 0)) jT (rK (aB (aP cI (aB (eOp oIx (aF 1) (eC d_ACROSS)) (aB (eOp oIx (aF 2) (eC d_ACROSS)) aNil))) (aB (aP cI (aB (eOp oIx (aF 1) (eC d_UP)) (aB (eOp oIx (aF 2) (eC d_UP)) aNil))) aNil))))) aNil)))
def lM:Mir:=fn 1 2 (aY (dP 1 (eOp oIx (aF 0) (eUn zHo (eC (.int 1))))) zDJ)
abbrev yI:Sv:=(dP 2 (aP cI (aB (aF 2) (aB (aF 5) aNil))))
abbrev xB:Sv:=(aY (zEr 3 (aF 5)) yI)
abbrev oC:Sv:=(aY (dP 5 (aP jL (aB (aF 2) (aB (aP bM (aB (aF 4) aNil)) aNil)))) xB)
abbrev wY:Sv:=(gT 3)
abbrev yN:Sv:=(aY (rJ (qL (aF 0)) (gName 4) oC) wY)
abbrev yP:Sv:=(aY (zEq 3 (vH aNil)) yN)
def fJ:Mir:=fn 2 6 (aY (dP 2 (aF 1)) yP)
abbrev uZ:Sv:=(zIR 4 sD (eOp oIx (aF 0) (aF 6)))
abbrev vA:Sv:=(aY (dP 3 (zNX (aP cI (aB (aF 3) (aB (eOp oIx (aF 5) (aF 6)) aNil))))) uZ)
abbrev vN:Sv:=(aY (zNP 5 (aF 6) (aP jL (aB (aF 7) (aB (aP bM (aB (eOp oIx (aF 1) (aF 6)) aNil)) aNil)))) vA)
abbrev bL:Sv:=(aY (dP 7 (aP tL (aB (aP dL (aB (aF 3) (aB (aP bM (aB (eOp oIx (aF 0) (aF 6)) aNil)) aNil))) (aB (aP bM (aB (aF 4) aNil)) aNil)))) vN)
abbrev iR:Sv:=(gT 5)
abbrev lZ:Sv:=(zEy (aB (eF (fQ dG (aB (aF 0) (aB (aF 1) aNil)))) aNil) iG (gName 6) bL iR)
abbrev vR:Sv:=(aY (zEq 5 (zKx (vH (aB (eC gF) aNil)) (eB kP (aB (aF 1) aNil)))) lZ)
abbrev uT:Sv:=(aY (dP 4 (eB zBm (aB (aF 0) aNil))) vR)
def cO:Mir:=fn 3 8 (aY (dP 3 (aF 2)) uT)
abbrev uU:Sv:=(jO (kK (qL (aF 0)) jT (aP dL (aB (aF 3) (aB (aP bM (aB (aF 4) aNil)) aNil)))))
abbrev uN:Sv:=(aY (dP 3 (aP tL (aB (aF 1) (aB (aP bM (aB (aF 2) aNil)) aNil)))) uU)
abbrev uB:Sv:=(aY (sIf (dQ (eOp oEq (aF 2) (eC (.int 0)))) (jO (zKx (vH (aB (eC gF) aNil)) (eB kP (aB (aF 0) aNil)))) sNext) uN)
def eK:Mir:=fn 2 4 (aY (dP 2 (eB zBm (aB (aF 0) aNil))) uB)
abbrev rY:Sv:=(zIR 3 sD (eOp oIx (aF 0) (aF 6)))
abbrev rX:Sv:=(aY (zIR 2 zCb (eOp oIx (aF 1) (aF 6))) rY)
abbrev eZ:Sv:=(aY (zEr 5 (aP lU (aB (aP bM (aB (aF 2) aNil)) (aB (aP dL (aB (eOp oIx (aF 4) (aF 6)) (aB (aP bM (aB (aF 3) aNil)) aNil))) aNil)))) rX)
abbrev kT:Sv:=(gT 5)
abbrev kH:Sv:=(zEy (aB (aF 4) aNil) iG (gName 6) eZ kT)
abbrev rW:Sv:=(aY (zEq 5 (vH (aB (eC gF) aNil))) kH)
abbrev sC:Sv:=(aY (dP 4 (eF (fQ dG (aB (aF 0) (aB (aF 1) aNil))))) rW)
abbrev tK:Sv:=(aY (dP 3 (eB zBm (aB (aF 0) aNil))) sC)
def cU:Mir:=fn 2 7 (aY (dP 2 (eC (.int 0))) tK)
def fI:Mir:=fn 2 2 (jO (kK (zIz (aF 0)) jT (aP cI (aB (aF 1) (aB (aF 2) aNil)))))
abbrev zBf:Sv:=(sIf (zDb (mW (dQ (aP cB (aB (eOp oIx (aF 1) (eC (.int 0))) aNil)))) (mW (dQ (aP cB (aB (eOp oIx (aF 1) (eC (.int 1))) aNil))))) (gP (eC (.bl false))) sNext)
abbrev zAa:Sv:=(aY (sIf (zDb (mW (dQ (zJn "tuple" (aF 1)))) (dQ (eOp oNe (eB kP (aB (aF 1) aNil)) (eC (.int 2))))) (gP (eC (.bl false))) sNext) zBf)
abbrev zAx:Sv:=(sIf (zDb (mW (dQ (aP dA (aB (eOp oIx (eOp oIx (aF 0) (eOp sD (aF 2) (eC (.int 1)))) (eC (.int 0))) (aB (eOp oIx (eOp oIx (aF 0) (aF 2)) (eC (.int 0))) aNil))))) (dQ (aP dA (aB (eOp oIx (eOp oIx (aF 0) (aF 2)) (eC (.int 1))) (aB (eOp oIx (eOp oIx (aF 0) (eOp sD (aF 2) (eC (.int 1)))) (eC (.int 1))) aNil))))) (gP (eC (.bl false))) sNext)
abbrev yG:Sv:=(gP (eOp oEq (aF 0) (aP gA (aB (aF 0) aNil))))
abbrev zX:Sv:=(aY (rJ (zBj (aB (eC (.int 1)) (aB (eB kP (aB (aF 0) aNil)) aNil))) (gName 2) zAx) yG)
abbrev zAs:Sv:=(aY (rJ (qL (aF 0)) (gName 1) zAa) zX)
def jH:Mir:=fn 1 3 (aY (sIf (zDb (mW (dQ (zJn "tuple" (aF 0)))) (zDb (dQ (eOp oLt (eB kP (aB (aF 0) aNil)) (eC (.int 1)))) (dQ (eOp oNe (eOp oIx (aF 0) (eC (.int 0))) (rK (aB (rK (aB (eC (.int 0)) (aB (eC (.int 1)) aNil))) (aB (rK (aB (eC (.int 0)) (aB (eC (.int 1)) aNil))) aNil))))))) (gP (eC (.bl false))) sNext) zAs)
abbrev pY:Sv:=(sIf (dQ (eOp oNe (aP eE (aB (eOp oIx (aF 0) (aF 6)) (aB (eOp oIx (aF 3) (eUn zHo (eC (.int 1)))) aNil))) (aP bE (aB (rK (aB (eOp oIx (aF 1) (aF 6)) (aB (eC (.int 1)) aNil))) (aB (eOp oIx (aF 4) (aF 6)) aNil))))) (gP (eC (.bl false))) sNext)
abbrev pN:Sv:=(aY (sIf (dQ (eOp oNe (aP eE (aB (eOp oIx (aF 0) (aF 6)) (aB (aF 5) aNil))) (eOp oIx (aF 4) (aF 6)))) (gP (eC (.bl false))) sNext) pY)
abbrev iH:Sv:=(gP (eC (.bl true)))
abbrev pE:Sv:=(aY (rJ (zBy (aB (eB kP (aB (aF 1) aNil)) aNil)) (gName 6) pN) iH)
def dI:List D->List D->Res (Bool×List D):=(zEe 3 7 4 5 (eF (kK (qL (eF (fQ eT (aB (eF (kK (qL (aF 1)) jT (eC (.int 1)))) (aB (aF 1) (aB (aF 2) aNil)))))) jT (aP aZ (aB (rK (aB (eC (.int 1)) (aB (eC (.int 2)) aNil))) (aB (aF 7) aNil))))) (aP gW (aB (aF 4) aNil)) (aF 5) (aP bE (aB (rK (aB (eB zBm (aB (aF 1) aNil)) (aB (eC (.int 1)) aNil))) (aB (aF 5) aNil))) pE)
abbrev sL:Sv:=(zEr 1 (aF 2))
abbrev zBP:Sv:=(aY (sIf (tFrzB (zDP (dQ (eOp oGt (eB kP (aB (aF 1) aNil)) (eC (.int 1)))) (dQ (aP fR (aB (eOp oIx (aF 1) (eUn zHo (eC (.int 2)))) (aB (eOp oIx (aF 1) (eUn zHo (eC (.int 1)))) (aB (aF 2) aNil))))))) (zMA 1) sNext) sL)
abbrev zBw:Sv:=(gP (eB zIX (aB (aF 1) aNil)))
abbrev zCe:Sv:=(aY (rJ (qL (aF 0)) (gName 2) zBP) zBw)
abbrev zBt:Sv:=(aY (zEq 1 (vH aNil)) zCe)
def lK:Mir:=fn 1 3 (aY (zAE (aP fS (aB (aF 0) aNil))) zBt)
abbrev uX:Sv:=(jO (kK (qL (eF (fQ cO (aB (aF 2) (aB (aF 0) (aB (aP lU (aB (aF 1) (aB (aF 1) aNil))) aNil)))))) jT (aP dL (aB (aF 3) (aB (eC d_HALF) aNil)))))
def eG:Mir:=fn 2 3 (aY (dP 2 (eF (zKx (vH (aB (eC (.int 1)) aNil)) (eB kP (aB (aF 0) aNil))))) uX)
abbrev qT:Sv:=(sIf (zDb (mW (dQ (aP jH (aB (aF 2) aNil)))) (dQ (eOp oNe (eOp oIx (aF 2) (eUn zHo (eC (.int 1)))) (rK (aB (rK (aB (eB zBm (aB (aF 1) aNil)) (aB (eC (.int 1)) aNil))) (aB (rK (aB (aF 3) (aB (eC (.int 1)) aNil))) aNil)))))) (gP (eC (.bl false))) sNext)
abbrev kC:Sv:=(gP (eC (.bl true)))
abbrev qP:Sv:=(aY (rJ (zHG (aB (aF 0) (aB (aF 1) aNil))) (zIn (qR (gName 2) (qR (gName 3) zIb))) qT) kC)
def dU:Mir:=fn 2 4 (aY (sIf (zDb (mW (dQ (zJn "list" (aF 0)))) (dQ (eOp oNe (eB kP (aB (aF 0) aNil)) (eB kP (aB (aF 1) aNil))))) (gP (eC (.bl false))) sNext) qP)
def lE:Mir:=fn 3 3 (gP (aP lK (aB (eF (qI (zHG (aB (aF 0) (aB (aF 1) aNil))) (rK (aB (aF 3) (aB (eOp oIx (aF 4) (aF 2)) aNil))))) aNil)))
abbrev uM (r:Mir):Sv:=(jO (zOB (aF 4) (eF (fQ fI (aB (aF 4) (aB (aF 3) aNil))))))
abbrev vC (r:Mir):Sv:=(jO (fQ fI (aB (eF (fQ r (aB (aP cY (aB (aF 0) aNil)) (aB (aF 1) (aB (aF 2) aNil))))) (aB (aF 3) aNil))))
abbrev xF (r:Mir):Sv:=(aY (sIf (dQ (eOp oEq (aF 0) (eC (.str "half")))) (aY (dP 4 (eF (kK (qL (eF (fQ cU (aB (eF (zKx (vH (aB (eC (.int 1)) aNil)) (eB kP (aB (aF 2) aNil)))) (aB (aF 2) aNil))))) jT (aP dL (aB (aF 5) (aB (eC d_HALF) aNil)))))) (uM r)) sNext) (vC r))
abbrev wN (r:Mir):Sv:=(aY (sIf (dQ (eOp oEq (aF 0) (eC (.str "part")))) (jO (vH (aB (eC gF) (aB (aF 3) aNil)))) sNext) (xF r))
abbrev yM (r:Mir):Sv:=(aY (sIf (dQ (eOp oEq (aF 0) (eC (.str "even")))) (jO (fQ cU (aB (aF 1) (aB (aF 2) aNil)))) sNext) (wN r))
abbrev yL (r:Mir):Sv:=(aY (sIf (dQ (eOp oEq (aF 0) (eC (.str "row")))) (jO (fQ eH (aB (aF 2) aNil))) sNext) (yM r))
def bQ (r:Mir):Mir:=fn 3 5 (aY (dP 3 (aP bM (aB (eB zBm (aB (aF 2) aNil)) aNil))) (yL r))
def bA:Nat->Mir
 | 0=>fn 3 5 sNo
 | n+1=>bQ (bA n)
abbrev nN (r:Mir):Sv:=(jO (qI (zHG (aB (aF 2) (aB (aF 5) aNil))) (aP cI (aB (aP bM (aB (aF 6) aNil)) (aB (aF 7) aNil)))))
abbrev nI (r:Mir):Sv:=(aY (dP 5 (eF (fQ r (aB (eUn (sZ aT) (aF 0)) (aB (aF 1) (aB (aF 2) (aB (aP cI (aB (aF 4) (aB (aF 3) aNil))) aNil))))))) (nN r))
abbrev pX (r:Mir):Sv:=(aY (sIf (zDP (dQ (eOp oEq (aF 0) (eC (.str "half")))) (mW (dQ (aP jA (aB (aF 4) (aB (aP lU (aB (aF 3) (aB (aF 3) aNil))) aNil)))))) (jO (fQ eG (aB (aF 2) (aB (aF 3) aNil)))) sNext) (nI r))
abbrev pM (r:Mir):Sv:=(aY (sIf (dQ (eOp oEq (aF 0) (eC (.str "part")))) (jO (fQ eK (aB (aF 2) (aB (aF 3) aNil)))) sNext) (pX r))
abbrev pO (r:Mir):Sv:=(aY (sIf (dQ (eOp oEq (aF 0) (eC (.str "even")))) (jO (fQ cO (aB (aF 1) (aB (aF 2) (aB (aF 3) aNil))))) sNext) (pM r))
abbrev pS (r:Mir):Sv:=(aY (sIf (dQ (eOp oEq (aF 0) (eC (.str "row")))) (jO (fQ fJ (aB (aF 2) (aB (aF 3) aNil)))) sNext) (pO r))
def aQ (r:Mir):Mir:=fn 4 6 (aY (dP 4 (aP bM (aB (eB zBm (aB (aF 2) aNil)) aNil))) (pS r))
def aM:Nat->Mir
 | 0=>fn 4 6 sNo
 | n+1=>aQ (aM n)
abbrev yH:Sv:=(jO (kK (zBy (aB (eB kP (aB (aF 2) aNil)) aNil)) jT (aP lE (aB (aF 3) (aB (aF 4) (aB (aF 5) aNil))))))
abbrev wX:Sv:=(aY (dP 4 (eF (kK (qL (aF 3)) jT (eF (fQ (aM 2) (aB (aF 0) (aB (aF 1) (aB (aF 2) (aB (aF 5) aNil))))))))) yH)
abbrev xH:Sv:=(aY (dP 3 (eF (fQ cM (aB (eF (fQ (bA 2) (aB (aF 0) (aB (aF 1) (aB (aF 2) aNil))))) aNil)))) wX)
def fH:Mir:=fn 3 5 (aY (zAE (aP nM (aB (aF 0) (aB (aF 1) (aB (aF 2) aNil))))) xH)
abbrev zDj:Sv:=(zMJ 4 2 7 6 dI)
abbrev zDt:Sv:=(zGe 4 2 9 dI)
abbrev zIk:Sv:=(aY (dP 9 (aP aZ (aB (rK (aB (eC (.int 1)) (aB (eC (.int 2)) aNil))) (aB (aP dN (aB (eOp oIx (aF 5) (eOp sD (aF 8) (eC (.int 1)))) (aB (eOp oIx (aF 5) (aF 8)) aNil))) aNil)))) zDt)
abbrev zCG:Sv:=(sIf (dQ (eOp sA (eOp oIx (aF 11) (eC (.int 0))) (aF 6))) (gP (eC (.bl false))) sNext)
abbrev zHQ:Sv:=(rJ (qL (aF 10)) (gName 11) zCG)
abbrev zDk:Sv:=(gP (eOp oEq (eF (kK (qL (aF 4)) jT (aP lM (aB (aF 12) aNil)))) (aF 4)))
abbrev qZ:Sv:=(aY (rJ (qL (aF 4)) (gName 10) zHQ) zDk)
abbrev rE:Sv:=(sFrzAt 6 (aY (rJ (zBj (aB (eC (.int 1)) (aB (eB kP (aB (aF 5) aNil)) aNil))) (gName 8) zIk) qZ))
abbrev zDx:Sv:=(aY (rJ (qL (aF 5)) (gName 7) zDj) rE)
abbrev zCB:Sv:=(aY (zEq 6 (vH aNil)) zDx)
abbrev zGg:Sv:=(aY (dP 5 (eF (fQ fU (aB (eF (kK (qL (aF 2)) jT (eC (.int 1)))) (aB (aF 2) aNil))))) zCB)
abbrev zFE:Sv:=(aY (sIf (zDb (dQ (eOp oNe (aF 3) (aF 2))) (mW (dQ (aP dU (aB (aF 4) (aB (aF 2) aNil)))))) (gP (eC (.bl false))) sNext) zGg)
abbrev zFU:Sv:=(aY (dP 4 (eF (fQ fH (aB (eC (.str "half")) (aB (eF (vH aNil)) (aB (aF 3) aNil)))))) zFE)
abbrev sV:Sv:=(aY (dP 3 (eF (zJH (aB (aF 2) aNil)))) zFU)
abbrev zFQ:Sv:=(aY (sIf (dQ (eOp oEq (aF 2) (eF (vH aNil)))) (dP 2 (eF (vH (aB (eOp zEs (aF 1) (eC (.int 5))) aNil)))) sNext) sV)
abbrev zEK:Sv:=(aY (dP 2 (eF (fQ fX (aB (eF (fSl (aF 0) (oS (eC (.int 1))) (oS (eC (.int 7))))) (aB (aF 1) aNil))))) zFQ)
def zKc:Mir:=fn 1 12 (aY (dP 1 (aP eU (aB (aF 0) (aB (eC (.int 0)) aNil)))) zEK)
end Lw
namespace Lw
open L3 PySem Fr Fq Ln
theorem c_NOUGHT:gF=dq 0:=rfl
local macro_rules | `(tactic| walk_at "ev")=>do
 let ids:Array (Lean.TSyntax `term):=(("c_NOUGHT d_ACROSS d_UP d_WEIGHTED d_HALF fn_at iZip_at fComp2_at chO_s oEq_s oNe_s oTabNot_s L3.start sSeq_at seqF_nx seqF_ret sSet_at setF sOwn_at ownF sRet_at retF sRetF_at retFF sRetOwn_at retS sRetN sIf_at ifF_t ifF_f sNext sNo sDrop_at dropF dropG eVar_at varS eC eOp_at opF eUn eCall_at callF rtF eB eTup_at tupF aCons_at consF consG aNil tVal_at blF tNotB_at notF tAndB_at tandF_t tandF_f tOrB_at torF_t torF_f eAnd_at andF_t andF_f eOr_at orF_t orF_f eIf_at eifF_t eifF_f eF_at efF fLst_at fLstF fCall_at fcallF rtFF fList_at fListF_l fListF_t fComp_at fRep_at repF fCat_at catF catG eFrz_at frzF oN oS_at oSF fSl_at fSlF fSlG fSlH isNon sApp_at appS appF sAug_at augS augF setG sUnp_at unpF nxF bSum_l bSum_t gTup_at gtF_t gCons_at gNil_at gName sFor_at forF iRev_at revD_t iRevL_at revL_l iSeq_at seqD_l seqD_t iRng1_at iRng2_at sFrz sFrzAt frzAt tFrzB okb erb Rt.d fin oAdd_i oAddI_i oSub_i oMul_i oDiv_i oMod_i oPow_i oEq_i oNe_i oLt_i oLe_i oGt_i oGe_i oIx_tc sPop_at popS dp_mk ty_dp len_dp ix_dp0 ix_dp1 dep_dp noL_dp oEq_dp oNe_dp noLs_dps oNeg_i oNot_b bAbs_i bLen_t bLen_l bMin_i bTup_t bTup_l eIsT_at isTF isT ty_i ty_t ty_l ty_b ty_s ty_n ofO_some atD sRaise_at raiseF Sl.frz noErr dep depS noL noLs List.map_cons List.map_nil List.cons_append List.nil_append List.append_nil List.replicate List.length_cons List.length_nil List.getElem?_cons_zero List.getElem?_cons_succ List.set_cons_zero List.set_cons_succ Nat.reduceAdd Nat.reduceSub Nat.reduceLeDiff Nat.reduceEqDiff Nat.zero_add Nat.sub_self Nat.max_self Nat.zero_le if_true ite_true ite_false if_false Bool.false_eq_true Bool.not_true Bool.not_false reduceIte ite_self Int.toNat_zero Int.reduceToNat Int.reduceLE Int.reduceLT Int.le_refl decide_true decide_false Bool.or_true Bool.or_false Bool.true_or Bool.false_or Bool.and_true Bool.true_and Bool.and_false Bool.false_and String.reduceBEq String.reduceEq beq_self_eq_true ix_dq0 ix_dq1 ty_dq dep_dq noL_dq len_dq eq_dq oEq_dq oNe_dq List.length_map okDiv_lit okMul_litr okMul_litl okp30 p10 fdiv_pos fmod_pos Int.reduceEq Int.reduceNeg p10ne p10ne2 p10pos2 Int.reduceMul Int.reduceAdd Int.reduceSub Int.reduceDiv Int.reduceMod eqD Nat.reduceLT Nat.reducePow ne_eq not_true_eq_false not_false_eq_true".splitOn " ").map fun s=>⟨Lean.mkIdent s.toName⟩).toArray
 `(tactic| simp only [$[$ids:term],*])
theorem qS (t b:Int):cW [.int t,.int b]=.ok (.v (.int (Int.gcd t b:Int))):=by
 unfold cW
 walk_at "ev"
 refine zJa (fun ρ=>∃ (x y:Int) (r:Sl),ρ=[.val (.int x),.val (.int y),r]/\0<=x/\0<=y/\Int.gcd x y=Int.gcd t b) (fun ρ=>(slI 1 ρ).toNat)
  (fun r=>(r.bind (zEi (gP (aF 0)))).bind fin=.ok (.v (.int (Int.gcd t b:Int)))) ⟨_,_,_,rfl,by omega,by omega,by simp [Int.gcd]⟩ ?_
 rintro ρ ⟨x,y,r,rfl,hx,hy,hg⟩
 by_cases h:y=0
 ·subst h
  refine .inl ⟨rfl,?_⟩
  have e:x=(Int.gcd t b:Int):=by
   rw [Int.gcd_zero_right] at hg
   omega
  rw [<-e]
  rfl
 ·refine .inr ⟨?_,[.val (.int y),.val (.int (x.fmod y)),.val (.int (x.fmod y))],?_,⟨y,x.fmod y,_,rfl,hy,?_,?_⟩,?_⟩
  ·walk_at "ev"
   rw [decide_eq_false h];rfl
  ·walk_at "ev"
   rw [oMod_i h]
   walk_at "ev"
  ·rw [zBo _ hy];exact Int.emod_nonneg _ h
  ·rw [zBo _ hy];exact (Fq.zCs hx (by omega)).trans hg
  ·have:=Int.emod_lt_of_pos x (show 0 < y by omega)
   rw [zBo _ hy]
   show (x % y).toNat < y.toNat
   omega
theorem zMu {t b:Int} (hb:b≠0):(dv t b).natAbs<=b.natAbs:=Nat.le_of_dvd (by omega) (Int.natAbs_dvd_natAbs.mpr (zDo t b))
theorem zU {t b:Int} {n:Nat} (hb:b≠0) (hn:b.natAbs < 2^n) (h:n<=8999):iC [.int t,.int b]=.ok (.v (dq (Rat.divInt t b))):=by
 have hd:kF (dv t b)=true:=rF (zLL hb) (Nat.lt_of_le_of_lt (zMu hb) hn) h
 have e0:decide (b=0)=false:=decide_eq_false hb
 unfold iC
 walk_at "ev"
 rw [e0]
 walk_at "ev"
 rw [qS]
 walk_at "ev"
 by_cases c:b < 0
 ·have e:-(Int.gcd t b:Int)=dv t b:=by unfold dv;rw [if_pos c]
  rw [decide_eq_true c]
  walk_at "ev"
  rw [e,oDiv_i hd]
  walk_at "ev"
  rw [oDiv_i hd]
  walk_at "ev"
  rw [wF hb,vV hb]
  rfl
 ·have e:(Int.gcd t b:Int)=dv t b:=by unfold dv;rw [if_neg c]
  rw [decide_eq_false c]
  walk_at "ev"
  rw [e,oDiv_i hd]
  walk_at "ev"
  rw [oDiv_i hd]
  walk_at "ev"
  rw [wF hb,vV hb]
  rfl
theorem zOJ (t:Int):iC [.int t,.int 0]=.err "NoFraction" := by
 unfold iC
 walk_at "ev"
theorem zCu {p q:Rat} {m n:Nat} (hp:Sz m p) (hq:Sz n q) (h:m+n<=8999):lU [dq p,dq q]=.ok (.v (dq (p+q))):=by
 unfold lU
 walk_at "ev"
 rw [oMul_i (bF hp.1 hq.d (by omega))]
 walk_at "ev"
 rw [oMul_i (bF hq.1 hp.d (by omega))]
 walk_at "ev"
 rw [oMul_i (bF hp.d hq.d (by omega))]
 walk_at "ev"
 rw [zU (Int.mul_ne_zero (cV p) (cV q)) (dW hp.d hq.d) h,zGq]
 walk_at "ev"
theorem eA {p q:Rat} {m n:Nat} (hp:Sz m p) (hq:Sz n q) (h:m+n<=8999):cI [dq p,dq q]=.ok (.v (dq (p - q))):=by
 unfold cI
 walk_at "ev"
 rw [oMul_i (bF hp.1 hq.d (by omega))]
 walk_at "ev"
 rw [oMul_i (bF hq.1 hp.d (by omega))]
 walk_at "ev"
 rw [oMul_i (bF hp.d hq.d (by omega))]
 walk_at "ev"
 rw [zU (Int.mul_ne_zero (cV p) (cV q)) (dW hp.d hq.d) h,zHh]
 walk_at "ev"
theorem mH {p q:Rat} {m n:Nat} (hp:Sz m p) (hq:Sz n q) (h:m+n<=8999):dL [dq p,dq q]=.ok (.v (dq (p * q))):=by
 unfold dL
 walk_at "ev"
 rw [oMul_i (bF hp.1 hq.1 (by omega))]
 walk_at "ev"
 rw [oMul_i (bF hp.d hq.d (by omega))]
 walk_at "ev"
 rw [zU (Int.mul_ne_zero (cV p) (cV q)) (dW hp.d hq.d) h,zEE]
 walk_at "ev"
theorem zIS {p q:Rat} {m n:Nat} (hp:Sz m p) (hq:Sz n q) (h0:q≠0) (h:m+n<=8999):tL [dq p,dq q]=.ok (.v (dq (p / q))):=by
 unfold tL
 walk_at "ev"
 rw [oMul_i (bF hp.1 hq.d (by omega))]
 walk_at "ev"
 rw [oMul_i (bF hp.d hq.1 (by omega))]
 walk_at "ev"
 rw [zU (Int.mul_ne_zero (cV p) (zGU.mpr h0)) (dW hp.d hq.1) h,zFl]
 walk_at "ev"
theorem sK {p q:Rat} {m n:Nat} (hp:Sz m p) (hq:Sz n q) (h:m+n<=99999):jA [dq p,dq q]=.ok (.v (.bl (decide (p < q)))):=by
 unfold jA
 walk_at "ev"
 rw [oMul_i (bF hp.1 hq.d (by omega))]
 walk_at "ev"
 rw [oMul_i (bF hq.1 hp.d (by omega))]
 walk_at "ev"
 simp only [lt_iff]
def mn (a b:Rat):Rat:=if a < b then a else b
def ps0 (x:Rat):Rat:=if x < 0 then 0 else x
def iD:List Int->Int->Rat->List Rat
 | [],_,_=>[]
 | c::r,a,q=>mn (ps0 (q - (a:Rat))) (c:Rat)::iD r (a+c) q
theorem zBa:∀ (cs:List Int) (a:Int) (q:Rat),(iD cs a q).length=cs.length
 | [],_,_=>rfl
 | c::r,a,q=>by simp only [iD,List.length_cons,zBa r]
theorem zKB {q:Rat} {a c:Int} (h:0<=c):ps0 (q - (a:Rat)) - mn (ps0 (q - (a:Rat))) (c:Rat)=ps0 (q - ((a+c:Int):Rat)):=by
 have h':(0:Rat)<=(c:Rat):=by exact_mod_cast h
 rw [Rat.intCast_add]
 unfold ps0 mn
 grind
theorem bX {n:Nat} {k:Int} (h:k.natAbs < 2^n) (h0:0 < n):Sz n (k:Rat):=by
 refine ⟨h,?_⟩
 show 1 < 2^n
 exact Nat.one_lt_two_pow (by omega)
theorem zLI {n:Nat} {q:Rat} (h:Sz n q) (h0:0 < n):Sz n (ps0 q):=by
 unfold ps0
 split
 ·exact bX (k:=0) (Nat.two_pow_pos n) h0
 ·exact h
theorem zJX {n:Nat} {p q:Rat} (h:Sz n p) (h':Sz n q):Sz n (mn p q):=by
 unfold mn
 split
 ·exact h
 ·exact h'
theorem bU (k:Int):bM [.int k]=.ok (.v (dq (k:Rat))):=by
 unfold bM
 walk_at "ev"
 rw [zDd]
theorem zDB {p q:Rat} {m n:Nat} (hp:Sz m p) (hq:Sz n q) (h:m+n<=99999):jL [dq p,dq q]=.ok (.v (dq (mn p q))):=by
 unfold jL
 walk_at "ev"
 rw [sK hp hq h]
 walk_at "ev"
 unfold mn
 by_cases c:p < q
 ·rw [decide_eq_true c,if_pos c]
  walk_at "ev"
 ·rw [decide_eq_false c,if_neg c]
  walk_at "ev"
structure Cl (cs:List Int):Prop where
 nn:∀ c∈cs,0<=c
 up:∀ c∈cs,c < 10^30
 lo:1<=cs.length
 hi:cs.length<=12
theorem zJw:∀ {cs:List Int},(∀ c∈cs,0<=c)->(∀ c∈cs,c < 10^30)->0<=cs.sum/\cs.sum<=cs.length * 10^30
 | [],_,_=>by decide
 | c::r,h,h'=>by
  have ih:=zJw (fun x hx=>h x (List.mem_cons_of_mem _ hx)) fun x hx=>h' x (List.mem_cons_of_mem _ hx)
  have a:=h c List.mem_cons_self
  have b:=h' c List.mem_cons_self
  rw [List.sum_cons,List.length_cons]
  refine ⟨by omega,?_⟩
  have:((r.length+1:Nat):Int) * 10^30=(r.length:Int) * 10^30+10^30:=by rw [Int.natCast_add,Int.add_mul];rfl
  omega
theorem Cl.sum {cs:List Int} (h:Cl cs):0<=cs.sum/\cs.sum < 2^104:=by
 have a:=zJw h.nn h.up
 have b:=h.hi
 refine ⟨a.1,?_⟩
 omega
structure Haul (m:Nat) (q:Rat) (W:Int):Prop where
 nn:0<=q
 up:q<=(W:Rat)
 sz:Sz m q
theorem zDp {d:D} {q:Rat} {m:Nat} (hm:m<=3000) (hq:Sz m q):∀ (cs:List Int) (a:Int) (acc:List D) (s t:Sl),(∀ c∈cs,0<=c)->(∀ c∈cs,c < 10^30)->0<=a->a+cs.length * 10^30 < 2^110->acc.length+cs.length<=100->
  ∃ l' s' t',eN (gName 4) oC (cs.map D.int) [.val d,.val (dq q),.val (dq (ps0 (q - (a:Rat)))),.own acc,s,t]=.ok (.nx [.val d,.val (dq q),l',.own (acc++(iD cs a q).map dq),s',t'])
 | [],a,acc,s,t,_,_,_,_,_=>⟨.val (dq (ps0 (q - (a:Rat)))),s,t,by rw [List.map_nil,eN];simp [iD]⟩
 | c::r,a,acc,s,t,h1,h2,h3,h4,h5=>by
  have c0:=h1 c List.mem_cons_self
  have c1:=h2 c List.mem_cons_self
  rw [List.length_cons] at h4 h5
  have e4:((r.length+1:Nat):Int) * 10^30=(r.length:Int) * 10^30+10^30:=by rw [Int.natCast_add,Int.add_mul];rfl
  have r0:0<=(r.length:Int) * 10^30:=Int.mul_nonneg (by omega) (by decide)
  have zl:Sz (m+111) (ps0 (q - (a:Rat))):=zLI (hq.sub (bX (n:=110) (by omega) (by decide))) (by omega)
  have zc:Sz (m+111) (c:Rat):=Sz.mono (m:=110) (bX (by omega) (by decide)) (by omega)
  obtain ⟨l',s',t',e⟩:=zDp hm hq r (a+c) (acc++[dq (mn (ps0 (q - (a:Rat))) (c:Rat))]) (.val (.int c)) (.val (dq (mn (ps0 (q - (a:Rat))) (c:Rat)))) (fun x hx=>h1 x (List.mem_cons_of_mem _ hx)) (fun x hx=>h2 x (List.mem_cons_of_mem _ hx)) (by omega) (by omega) (by rw [List.length_append,List.length_singleton];omega)
  refine ⟨l',s',t',?_⟩
  rw [List.map_cons,fW (ρ1:=[.val d,.val (dq q),.val (dq (ps0 (q - (a:Rat)))),.own acc,.val (.int c),t]) rfl,e]
  ·rw [iD,List.map_cons,List.append_assoc];rfl
  ·walk_at "ev"
   rw [bU]
   walk_at "ev"
   rw [zDB zl zc (by omega)]
   walk_at "ev"
   rw [if_pos (by omega)]
   walk_at "ev"
   rw [eA zl (zJX zl zc) (by omega)]
   walk_at "ev"
   rw [zKB c0]
theorem zCd {d:D} {cs:List Int} {q:Rat} (hd:d=.lst (cs.map D.int)∨d=.tup (cs.map D.int)) {m:Nat} (hm:m<=3000) (hc:Cl cs) (hq:Sz m q) (h0:0<=q):fJ [d,dq q]=.ok (.f ((iD cs 0 q).map dq)):=by
 have sq:zIH d=.ok (cs.map D.int):=by rcases hd with rfl | rfl<;>rfl
 have:=hc.hi
 obtain ⟨l',s',t',e⟩:=zDp (d:=d) hm hq cs 0 [] .un .un hc.nn hc.up (by decide) (by omega) (by rw [List.length_nil];omega)
 have z:ps0 (q - ((0:Int):Rat))=q:=by
  unfold ps0
  rw [show ((0:Int):Rat)=0 from rfl]
  grind
 rw [z] at e
 unfold fJ
 walk_at "ev"
 rw [sq]
 walk_at "ev"
 rw [e]
 rfl
def xX (cs:List Int) (q:Rat):List Rat:=cs.map fun c=>Rat.divInt (c * q.num) (max 1 cs.sum * q.den)
theorem zGw {q:Rat} {c W:Int} (h:0 < W):q / (W:Rat) * (c:Rat)=Rat.divInt (c * q.num) (W * q.den):=by
 have hW:(W:Rat)≠0:=by
  intro z
  have:W=0:=by exact_mod_cast z
  omega
 rw [<-zFl q (W:Rat)]
 show Rat.divInt (q.num * ((1:Nat):Int)) (q.den * W) * (c:Rat)=_
 rw [show ((1:Nat):Int)=1 from rfl,Int.mul_one,<-Rat.num_divInt_den (c:Rat),Rat.divInt_mul_divInt]
 show Rat.divInt (q.num * c) (q.den * W * ((1:Nat):Int))=_
 rw [show ((1:Nat):Int)=1 from rfl,Int.mul_one,Int.mul_comm q.num,Int.mul_comm (q.den:Int)]
theorem nZ:∀ {cs:List Int},(∀ c∈cs,0<=c)->cs.sum=0->∀ c∈cs,c=0
 | [],_,_,c,h=>by cases h
 | d::r,h,e,c,hc=>by
  rw [List.sum_cons] at e
  have h0:=h d List.mem_cons_self
  have hr:0<=r.sum:=by
   have:∀ l:List Int,(∀ c∈l,0<=c)->0<=l.sum:=by
    intro l
    induction l with
    | nil=>intro _;decide
    | cons a l ih=>intro hl;rw [List.sum_cons];have:=hl a List.mem_cons_self;have:=ih fun x hx=>hl x (List.mem_cons_of_mem _ hx);omega
   exact this r fun x hx=>h x (List.mem_cons_of_mem _ hx)
  rcases List.mem_cons.mp hc with rfl | hc
  ·omega
  ·exact nZ (fun x hx=>h x (List.mem_cons_of_mem _ hx)) (by omega) c hc
theorem zBd {d:D} {cs:List Int} {q:Rat} (hd:d=.lst (cs.map D.int)∨d=.tup (cs.map D.int)) {m:Nat} (hm:m<=3000) (hc:Cl cs) (hq:Sz m q):eK [d,dq q]=.ok (.f ((xX cs q).map dq)):=by
 have sm:=hc.sum
 have hi:=hc.hi
 have sq:zIH d=.ok (cs.map D.int):=by rcases hd with rfl | rfl<;>rfl
 have su:zBm [d]=.ok (.int cs.sum):=by rcases hd with rfl | rfl;exact bSum_l;exact bSum_t
 have ln:kP [d]=.ok (.int cs.length):=by rcases hd with rfl | rfl<;>(walk_at "ev")
 unfold eK
 walk_at "ev"
 rw [su]
 walk_at "ev"
 by_cases c0:cs.sum=0
 ·rw [decide_eq_true c0]
  walk_at "ev"
  rw [ln]
  walk_at "ev"
  rw [zDg (by omega)]
  walk_at "ev"
  have e:(xX cs q).map dq=List.replicate cs.length (dq 0):=by
   unfold xX
   rw [List.map_map,<-List.map_const']
   refine List.map_congr_left fun c h=>?_
   have c0:=nZ hc.nn c0 c h
   subst c0
   show dq (Rat.divInt (0 * q.num) _)=dq 0
   rw [Int.zero_mul,Rat.zero_divInt]
  rw [e]
 ·rw [decide_eq_false c0]
  walk_at "ev"
  have W0:0 < cs.sum:=by omega
  have zW:Sz 110 (cs.sum:Rat):=bX (by omega) (by decide)
  have nW:(cs.sum:Rat)≠0:=by
   intro z
   have:cs.sum=0:=by exact_mod_cast z
   omega
  rw [bU]
  walk_at "ev"
  rw [zIS hq zW nW (by omega)]
  walk_at "ev"
  rw [sq]
  walk_at "ev"
  rw [eS (u:=D.int) (g:=fun c=>dq (Rat.divInt (c * q.num) (max 1 cs.sum * q.den))) (by omega) (fun c h=>by
   have c0:=hc.nn c h
   have c1:=hc.up c h
   walk_at "ev"
   rw [bU]
   walk_at "ev"
   rw [mH (hq.div zW nW) (bX (n:=110) (k:=c) (by omega) (by decide)) (by omega)]
   walk_at "ev"
   rw [zGw W0,Int.max_eq_right (by omega)])]
  walk_at "ev"
  unfold xX
  rw [List.map_map]
  rfl
def gE (f:Nat->Rat) (l:List Nat):Rat:=(l.map f).sum
theorem aW (f:Nat->Rat) (i:Nat) (l:List Nat):gE f (i::l)=f i+gE f l:=by unfold gE;rw [List.map_cons,List.sum_cons]
theorem gO (f:Nat->Rat):gE f []=0:=rfl
theorem mZ {f g:Nat->Rat}:∀ {l:List Nat},(∀ i∈l,f i<=g i)->gE f l<=gE g l
 | [],_=>Rat.le_refl
 | i::l,h=>by
  rw [aW,aW]
  have a:=h i List.mem_cons_self
  have b:=mZ fun j hj=>h j (List.mem_cons_of_mem _ hj)
  grind
theorem pC {f g:Nat->Rat}:∀ {l:List Nat},(∀ i∈l,f i<=g i)->gE f l=gE g l->∀ i∈l,f i=g i
 | [],_,_,i,hi=>by cases hi
 | j::l,h,e,i,hi=>by
  rw [aW,aW] at e
  have a:=h j List.mem_cons_self
  have hb:∀ i∈l,f i<=g i:=fun k hk=>h k (List.mem_cons_of_mem _ hk)
  have b:=mZ hb
  rcases List.mem_cons.mp hi with rfl | hi
  ·grind
  ·exact pC hb (by grind) i hi
theorem rM {f:Nat->Rat} {l m:List Nat} (h:l.Perm m):gE f l=gE f m:=by
 induction h with
 | nil=>rfl
 | cons x _ ih=>rw [aW,aW,ih]
 | swap x y l=>rw [aW,aW,aW,aW];grind
 | trans _ _ h1 h2=>rw [h1,h2]
theorem cZ {w:Nat->Rat} {t:Rat}:∀ {l:List Nat},gE (fun i=>w i * t) l=t * gE w l
 | []=>by rw [gO,gO];grind
 | i::l=>by rw [aW,aW,cZ];grind
theorem dM {f g:Nat->Rat} {l:List Nat} (h:∀ i∈l,f i=g i):gE f l=gE g l:=by unfold gE;rw [List.map_congr_left h]
theorem zHB {w:Nat->Rat}:∀ {l:List Nat},(∀ i∈l,0 < w i)->0<=gE w l
 | [],_=>Rat.le_refl
 | i::l,h=>by
  rw [aW]
  have a:=h i List.mem_cons_self
  have b:=zHB fun j hj=>h j (List.mem_cons_of_mem _ hj)
  grind
def gets (c w:Nat->Rat) (t:Rat) (i:Nat):Rat:=mn (w i * t) (c i)
theorem zOy {a b c d:Rat} (h:a<=c) (h':b<=d):mn a b<=mn c d:=by unfold mn;grind
theorem lG {c w:Nat->Rat} {t u:Rat} {i:Nat} (hw:0 < w i) (h:t<=u):gets c w t i<=gets c w u i:=
 zOy (Rat.mul_le_mul_of_nonneg_left h (Rat.le_of_lt hw)) Rat.le_refl
theorem yC {c w:Nat->Rat} {t u:Rat} {l:List Nat} (hw:∀ i∈l,0 < w i) (h:gE (gets c w t) l=gE (gets c w u) l):∀ i∈l,gets c w t i=gets c w u i:=by
 rcases Rat.le_total (a:=t) (b:=u) with g | g
 ·exact pC (fun i hi=>lG (hw i hi) g) h
 ·exact fun i hi=>(pC (fun i hi=>lG (hw i hi) g) h.symm i hi).symm
theorem zFp {L W w c:Rat} (hW:0 < W) (h:L * w / W < c):mn (L * w / W) c=mn (w * (L / W)) c/\mn (w * (L / W)) c=w * (L / W):=by
 have e:L * w / W=w * (L / W):=by grind
 rw [e] at h ⊢
 exact ⟨rfl,if_pos h⟩
theorem zGj {r W w c:Rat} (hW:W≠0) (h:w * r<=c):mn (r * W * w / W) c=w * r:=by
 have e:r * W * w / W=w * r:=by grind
 rw [e]
 unfold mn
 grind
theorem zEA {ci wi cj wj r:Rat} (h1:0 < wi) (h2:0 < wj) (h:ci * wj<=cj * wi) (hr:wi * r<=ci):wj * r<=cj:=by
 have a:wi * r * wj<=ci * wj:=Rat.mul_le_mul_of_nonneg_right hr (Rat.le_of_lt h2)
 have b:wj * r * wi<=cj * wi:=by
  have:wj * r * wi=wi * r * wj:=by grind
  rw [this];exact Rat.le_trans a h
 exact Rat.le_of_mul_le_mul_right b h1
theorem zEf {L W w c b:Rat} (hw:0 < w) (h:¬ L * w / W < c) (hW:0 < W) (hb:b * W<=L):∃ b',b<=b'/\c<=w * b'/\b' * (W - w)<=L - c:=by
 have h1:c * W<=L * w:=by
  have h':=Rat.not_lt.mp h
  have:=Rat.mul_le_mul_of_nonneg_right h' (Rat.le_of_lt hW)
  rwa [Rat.div_mul_cancel (by grind)] at this
 have e1:w * (c / w)=c:=by grind
 have e2:c / w * (W - w)=c * W / w - c:=by grind
 have e3:c * W / w<=L:=by
  have a:c * W / w * w<=L * w:=by rw [Rat.div_mul_cancel (by grind)];exact h1
  exact Rat.le_of_mul_le_mul_right a hw
 rcases Rat.le_total (a:=b) (b:=c / w) with g | g
 ·exact ⟨c / w,g,by rw [e1];exact Rat.le_refl,by rw [e2];grind⟩
 ·refine ⟨b,Rat.le_refl,?_,?_⟩
  ·have:=Rat.mul_le_mul_of_nonneg_left g (Rat.le_of_lt hw)
   rwa [e1] at this
  ·have:=Rat.mul_le_mul_of_nonneg_left g (Rat.le_of_lt hw)
   rw [e1] at this
   grind
structure Wt (ws cs:List Int):Prop where
 len:ws.length=cs.length
 lo:∀ w∈ws,1<=w
 up:∀ w∈ws,w<=10^6
def cR (cs:List Int) (i:Nat):Rat:=((cs.getD i 0:Int):Rat)
def nO:List (Nat×Rat)->List D->List D
 | [],am=>am
 | p::r,am=>nO r (am.set p.1 (dq p.2))
def wS (ws:List Int) (π:List Nat):Int:=(π.map fun i=>ws.getD i 0).sum
theorem kN (ws:List Int) (i:Nat) (π:List Nat):wS ws (i::π)=ws.getD i 0+wS ws π:=by unfold wS;rw [List.map_cons,List.sum_cons]
theorem bG {l:List Int} {i:Nat} (h:i < l.length):l[i]?=some (l.getD i 0):=by rw [List.getD_eq_getElem?_getD,List.getElem?_eq_getElem h];rfl
theorem zOo {i:Nat} {k e:Ev} {ρ:Rho} {ds:List D} {d:D} {j:Nat} (h1:e ρ=.ok d) (h2:ρ[i]?=some (.own ds)) (h3:k ρ=.ok (.int (j:Int))) (h4:j < ds.length):zNP i k e ρ=.ok (.nx (ρ.set i (.own (ds.set j d)))):=by
 unfold zNP
 rw [h1]
 show (match ρ[i]? with | some (.own ds)=>_ | _=>_)=_
 rw [h2]
 show (k ρ).bind _=_
 rw [h3]
 exact if_pos ⟨Int.natCast_nonneg j,by omega⟩
theorem zMB {ds:List D} {d:D} {i:Nat} (h:i < ds.length):oIx (.lst (ds.set i d)) (.int (i:Int))=.ok d:=by
 have e:=jX (f:=id) (l:=ds.set i d) (i:=(i:Int)) (a:=d) (Int.natCast_nonneg i) (show (ds.set i d)[i]?=some d from List.getElem?_set_self h)
 rwa [List.map_id] at e
theorem Wt.at {ws cs:List Int} (h:Wt ws cs) {i:Nat} (hi:i < cs.length):1<=ws.getD i 0/\ws.getD i 0<=10^6:=by
 have:=bG (l:=ws) (i:=i) (by rw [h.len];exact hi)
 exact ⟨h.lo _ (List.mem_of_getElem? this),h.up _ (List.mem_of_getElem? this)⟩
theorem Wt.sum {ws cs:List Int} (h:Wt ws cs):∀ {π:List Nat},(∀ i∈π,i < cs.length)->(π.length:Int)<=wS ws π/\wS ws π<=π.length * 10^6
 | [],_=>⟨Int.le_refl _,Int.le_refl _⟩
 | i::π,hi=>by
  have a:=h.at (hi i List.mem_cons_self)
  have b:=h.sum fun j hj=>hi j (List.mem_cons_of_mem _ hj)
  rw [kN,List.length_cons]
  omega
def Sq (d:D) (l:List Int):Prop:=d=.lst (l.map D.int)∨d=.tup (l.map D.int)
theorem Sq.ix {d:D} {l:List Int} (h:Sq d l) {i:Nat} (hi:i < l.length):oIx d (.int (i:Int))=.ok (.int (l.getD i 0)):=by
 rcases h with rfl | rfl
 ·exact jX (Int.natCast_nonneg i) (bG hi)
 ·exact fM (Int.natCast_nonneg i) (bG hi)
theorem Sq.sum {d:D} {l:List Int} (h:Sq d l):zBm [d]=.ok (.int l.sum):=by
 rcases h with rfl | rfl
 ·exact bSum_l
 ·exact bSum_t
theorem Sq.len {d:D} {l:List Int} (h:Sq d l):kP [d]=.ok (.int l.length):=by
 rcases h with rfl | rfl
 ·rw [bLen_l,List.length_map]
 ·rw [bLen_t,List.length_map]
theorem Sq.seq {d:D} {l:List Int} (h:Sq d l):zIH d=.ok (l.map D.int):=by
 rcases h with rfl | rfl<;>rfl
theorem Sq.seqo {d:D} {l:List Int} (h:Sq d l):zHn d=some (l.map D.int):=by
 rcases h with rfl | rfl<;>rfl
theorem zGm {ws cs:List Int} {wd cd:D} (sw:Sq wd ws) (sc:Sq cd cs) {qv s7:Sl} {L:Rat} {W:Int} {i:Nat} {am:List D} (hW:Wt ws cs) (hc:∀ c∈cs,0<=c/\c < 10^30) {m:Nat} (hm:m<=3000) (hL:Sz (m+250) L) (W0:0 < W) (W1:W<=12 * 10^6) (hi:i < cs.length) (ha:am.length=cs.length) {a:Rat} (ea:mn (L * cR ws i / (W:Rat)) (cR cs i)=a):
  bL [.val wd,.val cd,qv,.val (dq L),.val (.int W),.own am,.val (.int (i:Nat)),s7]=
   .ok (.nx [.val wd,.val cd,qv,.val (dq (L - a)),.val (.int (W - ws.getD i 0)),.own (am.set i (dq a)),.val (.int (i:Nat)),.val (dq (L * cR ws i / (W:Rat)))]):=by
 have hiw:i < ws.length:=by rw [hW.len];exact hi
 obtain ⟨w1,w2⟩:=hW.at hi
 obtain ⟨c1,c2⟩:=hc _ (List.mem_of_getElem? (bG hi))
 have zW:Sz 24 (W:Rat):=bX (by omega) (by decide)
 have zw:Sz 20 (cR ws i):=bX (by omega) (by decide)
 have zc:Sz (m+294) (cR cs i):=Sz.mono (m:=100) (bX (by omega) (by decide)) (by omega)
 have nW:(W:Rat)≠0:=by
  intro z
  have:W=0:=by exact_mod_cast z
  omega
 have fw:bM [.int (ws.getD i 0)]=.ok (.v (dq (cR ws i))):=bU _
 have fc:bM [.int (cs.getD i 0)]=.ok (.v (dq (cR cs i))):=bU _
 have zx:Sz (m+294) (L * cR ws i / (W:Rat)):=((hL.mul zw).div zW nW).mono (by omega)
 walk_at "ev"
 rw [sw.ix hiw]
 walk_at "ev"
 rw [fw]
 walk_at "ev"
 rw [mH hL zw (by omega)]
 walk_at "ev"
 rw [bU]
 walk_at "ev"
 rw [zIS (hL.mul zw) zW nW (by omega)]
 walk_at "ev"
 rw [zOo (j:=i) (d:=dq a) (ds:=am) (by
  walk_at "ev"
  rw [sc.ix hi]
  walk_at "ev"
  rw [fc]
  walk_at "ev"
  rw [zDB zx zc (by omega),ea]
  walk_at "ev") rfl rfl (by omega)]
 walk_at "ev"
 rw [zMB (by omega)]
 walk_at "ev"
 rw [eA hL (ea ▸ zJX zx zc) (by omega)]
 walk_at "ev"
 rw [sw.ix hiw]
 walk_at "ev"
theorem kL (ws:List Int):∀ π:List Nat,gE (cR ws) π=(wS ws π:Rat)
 | []=>rfl
 | i::π=>by rw [aW,kL ws π,kN,Rat.intCast_add];rfl
theorem zAD {ws cs:List Int} {wd cd:D} (sw:Sq wd ws) (sc:Sq cd cs) {qv:Sl} {r:Rat} {m:Nat} (hm:m<=3000) (hW:Wt ws cs) (hc:∀ c∈cs,0<=c/\c < 10^30) (hr:Sz (m+150) r):∀ (π:List Nat) (am:List D) (s6 s7:Sl),(∀ i∈π,i < cs.length)->(∀ i∈π,cR ws i * r<=cR cs i)->π.length<=12->am.length=cs.length->
  ∃ l' W' s' t',eN (gName 6) bL (iU π) [.val wd,.val cd,qv,.val (dq (r * (wS ws π:Rat))),.val (.int (wS ws π)),.own am,s6,s7]=
   .ok (.nx [.val wd,.val cd,qv,l',W',.own (nO (π.map fun i=>(i,cR ws i * r)) am),s',t'])
 | [],am,s6,s7,_,_,_,_=>⟨_,_,_,_,rfl⟩
 | i::π,am,s6,s7,h1,h2,h4,h5=>by
  have hi:=h1 i List.mem_cons_self
  obtain ⟨W1,W2⟩:=hW.sum h1
  rw [List.length_cons] at h4 W1 W2
  have zW:Sz 24 (wS ws (i::π):Rat):=bX (by omega) (by decide)
  have nW:(wS ws (i::π):Rat)≠0:=by
   intro z
   have:wS ws (i::π)=0:=by exact_mod_cast z
   omega
  have e1:wS ws (i::π) - ws.getD i 0=wS ws π:=by rw [kN];omega
  have e2:r * (wS ws (i::π):Rat) - cR ws i * r=r * (wS ws π:Rat):=by
   rw [kN,Rat.intCast_add]
   show r * (cR ws i+(wS ws π:Rat)) - cR ws i * r=_
   grind
  have tn:=zGm sw sc (qv:=qv) (s7:=s7) (W:=wS ws (i::π)) (am:=am) hW hc hm ((hr.mul zW).mono (by omega)) (by omega) (by omega) hi h5 (zGj nW (h2 i List.mem_cons_self))
  rw [e1,e2] at tn
  obtain ⟨l',W',s',t',e⟩:=zAD sw sc hm hW hc hr π (am.set i (dq (cR ws i * r))) _ _ (fun j hj=>h1 j (List.mem_cons_of_mem _ hj)) (fun j hj=>h2 j (List.mem_cons_of_mem _ hj)) (by omega) (by rw [List.length_set];exact h5)
  refine ⟨l',W',s',t',?_⟩
  show eN _ _ (.int (i:Nat)::iU π) _=_
  rw [fW rfl tn,e]
  rfl
theorem zAe {ws cs:List Int} {wd cd:D} (sw:Sq wd ws) (sc:Sq cd cs) {qv:Sl} {q:Rat} {m:Nat} (hm:m<=3000) (hW:Wt ws cs) (hc:∀ c∈cs,0<=c/\c < 10^30) (hq:Sz m q):∀ (π:List Nat) (k:Int) (b:Rat) (am:List D) (s6 s7:Sl),(∀ i∈π,i < cs.length)->π.Pairwise (fun i j=>cR cs i * cR ws j<=cR cs j * cR ws i)->π.length<=12->am.length=cs.length->
  0<=k->k+π.length * 10^30 < 2^110->0<=q - (k:Rat)->q - (k:Rat)<=gE (cR cs) π->b * (wS ws π:Rat)<=q - (k:Rat)->
  ∃ t,b<=t/\gE (gets (cR cs) (cR ws) t) π=q - (k:Rat)/\(∀ i∈π,Sz (m+155) (gets (cR cs) (cR ws) t i))/\∃ l' W' s' t',eN (gName 6) bL (iU π) [.val wd,.val cd,qv,.val (dq (q - (k:Rat))),.val (.int (wS ws π)),.own am,s6,s7]=
   .ok (.nx [.val wd,.val cd,qv,l',W',.own (nO (π.map fun i=>(i,gets (cR cs) (cR ws) t i)) am),s',t'])
 | [],k,b,am,s6,s7,_,_,_,_,_,_,h6,h7,_=>⟨b,Rat.le_refl,by rw [gO] at h7 ⊢;grind,fun i h=>by (cases h),_,_,_,_,rfl⟩
 | i::π,k,b,am,s6,s7,h1,h2,h3,h4,h5,h5',h6,h7,h8=>by
  have hi:=h1 i List.mem_cons_self
  have h1':∀ j∈π,j < cs.length:=fun j hj=>h1 j (List.mem_cons_of_mem _ hj)
  obtain ⟨W1,W2⟩:=hW.sum h1
  obtain ⟨V1,V2⟩:=hW.sum h1'
  obtain ⟨w1,w2⟩:=hW.at hi
  obtain ⟨c1,c2⟩:=hc _ (List.mem_of_getElem? (bG hi))
  obtain ⟨p1,p2⟩:=List.pairwise_cons.mp h2
  rw [List.length_cons] at h3 h5' W1 W2
  have ek:((π.length+1:Nat):Int) * 10^30=(π.length:Int) * 10^30+10^30:=by rw [Int.natCast_add,Int.add_mul];rfl
  have k0:0<=(π.length:Int) * 10^30:=Int.mul_nonneg (by omega) (by decide)
  have zW:Sz 24 (wS ws (i::π):Rat):=bX (by omega) (by decide)
  have zk:Sz 110 (k:Rat):=bX (by omega) (by decide)
  have zL:Sz (m+111) (q - (k:Rat)):=(hq.sub zk).mono (by omega)
  have pW:(0:Rat) < (wS ws (i::π):Rat):=by exact_mod_cast (show 0 < wS ws (i::π) by omega)
  have nW:(wS ws (i::π):Rat)≠0:=fun z=>by rw [z] at pW;exact absurd pW (by decide)
  have pw:∀ j,j < cs.length->0 < cR ws j:=fun j hj=>by
   have:=(hW.at hj).1
   unfold cR
   exact_mod_cast (show 0 < ws.getD j 0 by omega)
  have e1:wS ws (i::π) - ws.getD i 0=wS ws π:=by rw [kN];omega
  have eW:(wS ws (i::π):Rat)=cR ws i+(wS ws π:Rat):=by rw [kN,Rat.intCast_add];rfl
  have pV:(0:Rat)<=(wS ws π:Rat):=by exact_mod_cast (show 0<=wS ws π by omega)
  generalize hL:q - (k:Rat)=L at h6 h7 h8 zL ⊢
  have loop1:∀ {a:Rat} {l' W' s' t':Sl} {am':List D},mn (L * cR ws i / (wS ws (i::π):Rat)) (cR cs i)=a->eN (gName 6) bL (iU π) [.val wd,.val cd,qv,.val (dq (L - a)),.val (.int (wS ws π)),.own (am.set i (dq a)),.val (.int (i:Nat)),.val (dq (L * cR ws i / (wS ws (i::π):Rat)))]=.ok (.nx [.val wd,.val cd,qv,l',W',.own am',s',t'])->
    eN (gName 6) bL (iU (i::π)) [.val wd,.val cd,qv,.val (dq L),.val (.int (wS ws (i::π))),.own am,s6,s7]=.ok (.nx [.val wd,.val cd,qv,l',W',.own am',s',t']):=fun {a l' W' s' t' am'} ea e=>by
   have tn:=zGm sw sc (qv:=qv) (s7:=s7) (W:=wS ws (i::π)) (am:=am) hW hc hm (zL.mono (by omega)) (by omega) (by omega) hi h4 ea
   rw [e1] at tn
   show eN _ _ (.int (i:Nat)::iU π) _=_
   rw [fW rfl tn]
   exact e
  by_cases hx:L * cR ws i / (wS ws (i::π):Rat) < cR cs i
  ·obtain ⟨x1,x2⟩:=zFp pW hx
   generalize hr:L / (wS ws (i::π):Rat)=r at x1 x2
   have zr:Sz (m+135) r:=hr ▸ (zL.div zW nW).mono (by omega)
   have eL:L=r * (wS ws (i::π):Rat):=by rw [<-hr,Rat.div_mul_cancel nW]
   have wr:cR ws i * r<=cR cs i:=by
    have e:L * cR ws i / (wS ws (i::π):Rat)=cR ws i * r:=by rw [<-hr];grind
    rw [e] at hx;exact Rat.le_of_lt hx
   have later:∀ j∈π,cR ws j * r<=cR cs j:=fun j hj=>zEA (pw i hi) (pw j (h1' j hj)) (p1 j hj) wr
   have gj:∀ j∈i::π,gets (cR cs) (cR ws) r j=cR ws j * r:=fun j hj=>by
    have:cR ws j * r<=cR cs j:=by
     rcases List.mem_cons.mp hj with rfl | hj
     ·exact wr
     ·exact later j hj
    unfold gets mn
    grind
   have e2:L - cR ws i * r=r * (wS ws π:Rat):=by rw [eL,eW];grind
   obtain ⟨l',W',s',t',e⟩:=zAD sw sc (qv:=qv) hm hW hc (zr.mono (by omega)) π (am.set i (dq (cR ws i * r))) (.val (.int (i:Nat))) (.val (dq (L * cR ws i / (wS ws (i::π):Rat)))) h1' later (by omega) (by rw [List.length_set];exact h4)
   refine ⟨r,Rat.le_of_mul_le_mul_right (by rw [<-eL];exact h8) pW,?_,fun j hj=>?_,l',W',s',t',loop1 (a:=cR ws i * r) (x1.trans x2) ?_⟩
   ·rw [dM gj,cZ,kL,<-eL]
   ·rw [gj j hj]
    have v:=hW.at (h1 j hj)
    exact (Sz.mul (m:=20) (n:=m+135) (bX (by omega) (by decide)) zr).mono (by omega)
   ·rw [e2,e,List.map_cons,nO,gj i List.mem_cons_self]
    rw [List.map_congr_left (g:=fun j=>(j,gets (cR cs) (cR ws) r j)) fun j hj=>by rw [gj j (List.mem_cons_of_mem _ hj)]]
  ·have ea:mn (L * cR ws i / (wS ws (i::π):Rat)) (cR cs i)=cR cs i:=if_neg hx
   obtain ⟨b',g1,g2,g3⟩:=zEf (pw i hi) hx pW h8
   have ek2:q - ((k+cs.getD i 0:Int):Rat)=L - cR cs i:=by rw [Rat.intCast_add,<-hL];show q - ((k:Rat)+cR cs i)=_;grind
   have c0:0<=cR cs i:=by unfold cR;exact_mod_cast c1
   have cL:cR cs i<=L:=by
    have y:=Rat.mul_le_mul_of_nonneg_right (Rat.not_lt.mp hx) (Rat.le_of_lt pW)
    rw [Rat.div_mul_cancel nW] at y
    have y2:L * cR ws i<=L * (wS ws (i::π):Rat):=Rat.mul_le_mul_of_nonneg_left (by rw [eW];grind) h6
    exact Rat.le_of_mul_le_mul_right (Rat.le_trans y y2) pW
   rw [aW] at h7
   have g3':b' * (wS ws π:Rat)<=L - cR cs i:=by
    rw [eW] at g3
    have:cR ws i+(wS ws π:Rat) - cR ws i=(wS ws π:Rat):=by grind
    rw [this] at g3;exact g3
   obtain ⟨t,t1,t2,tz,l',W',s',t',e⟩:=zAe sw sc (qv:=qv) hm hW hc hq π (k+cs.getD i 0) b' (am.set i (dq (cR cs i))) (.val (.int (i:Nat))) (.val (dq (L * cR ws i / (wS ws (i::π):Rat)))) h1' p2 (by omega) (by rw [List.length_set];exact h4) (by omega) (by omega) (by rw [ek2];grind) (by rw [ek2];grind) (by rw [ek2];exact g3')
   have gi:gets (cR cs) (cR ws) t i=cR cs i:=by
    have:=Rat.mul_le_mul_of_nonneg_left t1 (Rat.le_of_lt (pw i hi))
    unfold gets mn
    grind
   rw [ek2] at e t2
   refine ⟨t,Rat.le_trans g1 t1,?_,fun j hj=>?_,l',W',s',t',loop1 ea ?_⟩
   ·rw [aW,gi,t2];grind
   ·rcases List.mem_cons.mp hj with rfl | hj
    ·rw [gi];exact Sz.mono (m:=100) (bX (by omega) (by decide)) (by omega)
    ·exact tz j hj
   ·rw [e,List.map_cons,nO,gi]
theorem vU {g:Nat->Rat}:∀ (π:List Nat) (am:List D) (j:Nat),(nO (π.map fun i=>(i,g i)) am)[j]?=if j∈π then (if j < am.length then some (dq (g j)) else none) else am[j]?
 | [],am,j=>by simp [nO]
 | i::π,am,j=>by
  rw [List.map_cons,nO,vU π,List.length_set]
  by_cases h1:j∈π
  ·rw [if_pos h1,if_pos (List.mem_cons_of_mem _ h1)]
  ·rw [if_neg h1]
   by_cases h2:j=i
   ·subst h2
    rw [if_pos List.mem_cons_self]
    by_cases h3:j < am.length
    ·rw [if_pos h3];exact List.getElem?_set_self h3
    ·rw [if_neg h3,List.getElem?_eq_none (by rw [List.length_set];omega)]
   ·rw [if_neg (by simp [h1,h2]),List.getElem?_set_ne (fun z=>h2 z.symm)]
theorem zDZ {g:Nat->Rat} {π:List Nat} {n:Nat} (h:π.Perm (List.range n)):nO (π.map fun i=>(i,g i)) (List.replicate n (dq 0))=((List.range n).map g).map dq:=by
 refine List.ext_getElem? fun j=>?_
 rw [vU,List.getElem?_map,List.getElem?_map,List.length_replicate]
 by_cases hj:j < n
 ·rw [if_pos (h.mem_iff.mpr (List.mem_range.mpr hj)),if_pos hj,List.getElem?_range hj];rfl
 ·rw [if_neg (fun z=>hj (List.mem_range.mp (h.mem_iff.mp z))),List.getElem?_eq_none (by rw [List.length_replicate];omega),List.getElem?_eq_none (by rw [List.length_range];omega)];rfl
theorem zBK (kz:List Int):∃ π,fF kz π:=⟨_,zEH kz⟩
theorem zFa {fs:Fv} {kf:List D->Res (List Int)} {g:Gv} {b r:Sv} {ρ:Rho} {kz:List Int} {x:Res Fl} (h1:(fs ρ).bind kf=.ok kz) (h:∀ π,fF kz π->aY (fun ρ=>eN g b (iU π) ρ) r ρ=x):zEy fs kf g b r ρ=x:=by
 obtain ⟨π,hπ⟩:=zBK kz
 unfold zEy
 rw [h1]
 exact zDR hπ h
def qY:List Rat->Int
 | []=>1
 | x::r=>x.den * qY r
def zHr (B:Int) (x:Rat):Int:=x.num * B.fdiv x.den
theorem zCW:∀ {l:List Rat} {x:Rat},x∈l->(x.den:Int) ∣ qY l
 | y::r,x,h=>by
  rcases List.mem_cons.mp h with rfl | h
  ·exact ⟨qY r,rfl⟩
  ·exact Int.dvd_trans (zCW h) ⟨y.den,Int.mul_comm _ _⟩
theorem xS:∀ l:List Rat,0 < qY l
 | []=>by decide
 | x::r=>Int.mul_pos (iX x) (xS r)
theorem zIU {l:List Rat} {x:Rat} (h:x∈l):((zHr (qY l) x:Int):Rat)=x * (qY l:Rat):=by
 obtain ⟨k,hk⟩:=zCW h
 have d0:=iX x
 unfold zHr
 rw [fdiv_pos _ d0,hk,Int.mul_ediv_cancel_left _ (by omega),Rat.intCast_mul,Rat.intCast_mul]
 have e:x * ((x.den:Int):Rat)=(x.num:Rat):=by
  have h1:=Rat.num_divInt_den x
  rw [Rat.divInt_eq_div] at h1
  have h2:((x.den:Int):Rat)≠0:=fun z=>by
   have:(x.den:Int)=0:=by exact_mod_cast z
   omega
  rw [<-Rat.div_mul_cancel (a:=(x.num:Rat)) h2,h1]
 rw [<-e]
 grind
theorem zAA {a:Sl}:∀ (l:List Rat) (B:Int) (s:Sl) (m:Nat),(∀ x∈l,(x.den:Int)<=10^6)->B.natAbs < 2^m->m+20 * l.length<=1000->
  ∃ s',eN (gName 2) wD (l.map dq) [a,.val (.int B),s]=.ok (.nx [a,.val (.int (B * qY l)),s'])/\(B * qY l).natAbs < 2^(m+20 * l.length)
 | [],B,s,m,_,h2,_=>⟨s,by rw [List.map_nil,eN,qY,Int.mul_one],by rw [qY,Int.mul_one];exact h2⟩
 | x::r,B,s,m,h1,h2,h3=>by
  have d1:=h1 x List.mem_cons_self
  have d0:=iX x
  rw [List.length_cons] at h3
  have hx:((x.den:Int)).natAbs < 2^20:=by omega
  obtain ⟨s',e,hb⟩:=zAA r (B * x.den) (.val (dq x)) (m+20) (fun y hy=>h1 y (List.mem_cons_of_mem _ hy)) (dW h2 hx) (by omega)
  have ed:B * qY (x::r)=B * x.den * qY r:=by rw [qY,Int.mul_assoc]
  refine ⟨s',?_,by rw [ed,List.length_cons,show m+20 * (r.length+1)=m+20+20 * r.length by omega];exact hb⟩
  rw [ed,<-e,List.map_cons]
  refine fW (ρ1:=[a,.val (.int B),.val (dq x)]) rfl ?_
  walk_at "ev"
  rw [oMul_i (bF (m:=m) (n:=20) h2 hx (by omega))]
  walk_at "ev"
theorem zDA {B:Int} (hB:B.natAbs < 2^1000):∀ {l:List Rat},(∀ x∈l,(x.den:Int)<=10^6/\Sz 500 x)->nH B (l.map dq)=.ok (l.map (zHr B))
 | [],_=>rfl
 | x::r,h=>by
  obtain ⟨d1,z⟩:=h x List.mem_cons_self
  have d0:=iX x
  have e1:kF (x.den:Int)=true:=rF (m:=20) (by omega) (by omega) (by decide)
  have e2:iP x.num (B.fdiv x.den)=true:=by
   rw [fdiv_pos _ d0]
   refine bF (m:=500) (n:=1000) z.1 (Nat.lt_of_le_of_lt ?_ hB) (by decide)
   exact Int.natAbs_ediv_le_natAbs _ _
  have k1:zHq B (dq x)=.ok (zHr B x):=by
   show (if (kF (x.den:Int) && iP x.num (B.fdiv x.den))=true then Res.ok _ else .no)=_
   rw [e1,e2];rfl
  rw [List.map_cons,nH,k1]
  show ((nH B (r.map dq)).bind fun ks=>Res.ok (zHr B x::ks))=_
  rw [zDA hB fun y hy=>h y (List.mem_cons_of_mem _ hy)]
  rfl
theorem vW {l:List Rat} (h:∀ x∈l,(x.den:Int)<=10^6/\Sz 500 x) (hl:l.length<=12):iG [.lst (l.map dq)]=.ok (l.map (zHr (qY l))):=by
 obtain ⟨s',e,hb⟩:=zAA (a:=.val (.lst (l.map dq))) l 1 .un 1 (fun x hx=>(h x hx).1) (by decide) (by omega)
 rw [Int.one_mul] at e hb
 have r1:zBb (start 3 [.lst (l.map dq)])=.ok (.nx [.val (.lst (l.map dq)),.val (.int 1),.un]):=rfl
 have r2:sI [.val (.lst (l.map dq)),.val (.int 1),.un]=.ok (.nx [.val (.lst (l.map dq)),.val (.int (qY l)),s']):=by
  walk_at "ev"
  exact e
 unfold iG yS
 rw [if_pos (show [D.lst (l.map dq)].length=1 from rfl),r1]
 show (match sI [.val (.lst (l.map dq)),.val (.int 1),.un] with | .ok (.nx ρ')=>zCF ρ' | _=>.no)=_
 rw [r2]
 show (if (l.map dq).length < 64 then nH (qY l) (l.map dq) else .no)=_
 rw [if_pos (by rw [List.length_map];omega)]
 exact zDA (Nat.lt_of_lt_of_le hb (Nat.pow_le_pow_right (by decide) (by omega))) h
def lvs (ws cs:List Int):List Rat:=(cs.zip ws).map fun p=>Rat.divInt p.1 p.2
theorem wL {ws cs:List Int} (h:ws.length=cs.length):(lvs ws cs).length=cs.length:=by unfold lvs;rw [List.length_map,List.length_zip,h,Nat.min_self]
theorem zGK {ws cs:List Int} {i:Nat} (h:ws.length=cs.length) (hi:i < cs.length):(lvs ws cs)[i]?=some (cR cs i / cR ws i):=by
 unfold lvs
 rw [List.getElem?_map]
 have:(cs.zip ws)[i]?=some (cs.getD i 0,ws.getD i 0):=by
  rw [List.getElem?_zip_eq_some]
  exact ⟨bG hi,bG (by omega)⟩
 rw [this]
 show some (Rat.divInt _ _)=_
 rw [Rat.divInt_eq_div]
 rfl
theorem zCC {t b:Int} (hb:0 < b):((Rat.divInt t b).den:Int)<=b:=by
 have e:=vV (t:=t) (b:=b) (by omega)
 have d0:0<=dv t b:=by unfold dv;rw [if_neg (by omega)];exact Int.natCast_nonneg _
 rw [<-e,zLc _ d0]
 exact Int.ediv_le_self _ (by omega)
theorem zJq {ws cs:List Int} (hW:Wt ws cs) (hc:∀ c∈cs,0<=c/\c < 10^30):∀ x∈lvs ws cs,(x.den:Int)<=10^6/\Sz 500 x:=fun x hx=>by
 obtain ⟨p,hp,rfl⟩:=List.mem_map.mp hx
 obtain ⟨h1,h2⟩:=List.of_mem_zip hp
 have c:=hc _ h1
 have w1:=hW.lo _ h2
 have w2:=hW.up _ h2
 have d:=zCC (t:=p.1) (b:=p.2) (by omega)
 exact ⟨by omega,Sz.of (by omega) (by omega) (by omega)⟩
theorem rR {ws cs:List Int} {wd cd:D} (sw:Sq wd ws) (sc:Sq cd cs) (hW:Wt ws cs) (hl:cs.length<=12):dG [wd,cd]=.ok (.f ((lvs ws cs).map dq)):=by
 have hw:=hW.len
 unfold dG
 walk_at "ev"
 rw [lB sc.seqo sw.seqo]
 walk_at "ev"
 rw [jD (u:=D.int) (v:=D.int) (g:=fun c w=>dq (Rat.divInt c w)) (by omega) (fun p hp=>by
  have h2:=(List.of_mem_zip hp).2
  have w1:=hW.lo _ h2
  have w2:=hW.up _ h2
  walk_at "ev"
  rw [zU (n:=20) (by omega) (by omega) (by decide)]
  walk_at "ev")]
 walk_at "ev"
 unfold lvs
 rw [List.map_map]
 rfl
theorem wT (ws:List Int):∀ n,n<=ws.length->wS ws (List.range n)=(ws.take n).sum
 | 0,_=>rfl
 | n+1,h=>by
  have e:wS ws (List.range n++[n])=wS ws (List.range n)+ws.getD n 0:=by unfold wS;rw [List.map_append,List.sum_append];simp
  rw [List.range_succ,e,wT ws n (by omega),List.take_succ,List.sum_append,bG (show n < ws.length by omega)]
  simp
theorem yU {ws:List Int} {π:List Nat} (h:π.Perm (List.range ws.length)):wS ws π=ws.sum:=by
 have e:=kL ws π
 rw [rM h,kL,wT ws _ (Nat.le_refl _),List.take_length] at e
 have:=Rat.intCast_inj.mp e
 omega
theorem zJC {a b:Sv} {ρ ρ':Rho} (h:a ρ=.ok (.nx ρ')):aY a b ρ=b ρ':=by unfold aY;rw [h];rfl
def evs (ws cs:List Int) (t:Rat):List Rat:=(List.range cs.length).map (gets (cR cs) (cR ws) t)
theorem qG {ws cs:List Int} {wd cd:D} (sw:Sq wd ws) (sc:Sq cd cs) {q:Rat} {m:Nat} (hmm:m<=3000) (hW:Wt ws cs) (hc:Cl cs) (hq:Sz m q) (h0:0<=q) (h1:q<=(cs.sum:Rat)):∃ t,0<=t/\cO [wd,cd,dq q]=.ok (.f ((evs ws cs t).map dq))/\(evs ws cs t).sum=q/\∀ i,i < cs.length->Sz (m+155) (gets (cR cs) (cR ws) t i):=by
 have hcc:∀ c∈cs,0<=c/\c < 10^30:=fun c h=>⟨hc.nn c h,hc.up c h⟩
 have hi:=hc.hi
 have hw:=hW.len
 have hkr:=vW (zJq hW hcc) (by rw [wL hw];exact hi)
 generalize hkz:(lvs ws cs).map (zHr (qY (lvs ws cs)))=kz at hkr
 have lz:kz.length=cs.length:=by rw [<-hkz,List.length_map,wL hw]
 have pw:∀ j,j < cs.length->0 < cR ws j:=fun j hj=>by
  have:=(hW.at hj).1
  unfold cR
  exact_mod_cast (show 0 < ws.getD j 0 by omega)
 have one:∀ π,fF kz π->∃ t,0<=t/\gE (gets (cR cs) (cR ws) t) (List.range cs.length)=q/\(∀ i,i < cs.length->Sz (m+155) (gets (cR cs) (cR ws) t i))/\aY (fun ρ=>eN (gName 6) bL (iU π) ρ) iR [.val wd,.val cd,.val (dq q),.val (dq q),.val (.int ws.sum),.own (List.replicate cs.length (dq 0)),.un,.un]=.ok (.ret (.f ((evs ws cs t).map dq))):=by
  intro π hπ
  obtain ⟨hp,ho,_⟩:=hπ
  rw [lz] at hp
  have hm:∀ i∈π,i < cs.length:=fun i h=>List.mem_range.mp (hp.mem_iff.mp h)
  have hl:π.length=cs.length:=by rw [hp.length_eq,List.length_range]
  have B0:=xS (lvs ws cs)
  have B0':(0:Rat) < (qY (lvs ws cs):Rat):=by exact_mod_cast B0
  have kat:∀ i,i < cs.length->((kz.getD i 0:Int):Rat)=cR cs i / cR ws i * (qY (lvs ws cs):Rat):=fun i h=>by
   have e:=zGK hw h
   have e2:kz.getD i 0=zHr (qY (lvs ws cs)) (cR cs i / cR ws i):=by rw [<-hkz,List.getD_eq_getElem?_getD,List.getElem?_map,e];rfl
   rw [e2]
   exact zIU (List.mem_of_getElem? e)
  have ord:π.Pairwise (fun i j=>cR cs i * cR ws j<=cR cs j * cR ws i):=by
   refine List.Pairwise.imp_of_mem (fun {i j} h1 h2 h3=>?_) ho
   have h4:((kz.getD i 0:Int):Rat)<=((kz.getD j 0:Int):Rat):=Rat.intCast_le_intCast.mpr h3
   rw [kat i (hm i h1),kat j (hm j h2)] at h4
   have h5:=Rat.le_of_mul_le_mul_right h4 B0'
   have wi:=pw i (hm i h1)
   have wj:=pw j (hm j h2)
   have h6:=Rat.mul_le_mul_of_nonneg_right h5 (Rat.le_of_lt (Rat.mul_pos wi wj))
   have e1:cR cs i / cR ws i * (cR ws i * cR ws j)=cR cs i * cR ws j:=by grind
   have e2:cR cs j / cR ws j * (cR ws i * cR ws j)=cR cs j * cR ws i:=by grind
   rwa [e1,e2] at h6
  have hW':wS ws π=ws.sum:=yU (by rw [hw];exact hp)
  have hC':gE (cR cs) π=(cs.sum:Rat):=by rw [kL,yU hp]
  have z0:q - ((0:Int):Rat)=q:=by rw [show ((0:Int):Rat)=0 from rfl];grind
  obtain ⟨t,t1,t2,tz,l',W',s',t',e⟩:=zAe sw sc (qv:=.val (dq q)) hmm hW hcc hq π 0 0 (List.replicate cs.length (dq 0)) .un .un hm ord (by omega) (by rw [List.length_replicate]) (by decide) (by rw [hl];omega) (by rw [z0];exact h0) (by rw [z0,hC'];exact h1) (by rw [z0];grind)
  rw [z0,hW'] at e
  rw [z0] at t2
  refine ⟨t,t1,by rw [<-rM hp];exact t2,fun i h=>tz i (hp.mem_iff.mpr (List.mem_range.mpr h)),?_⟩
  refine (zJC (a:=fun ρ=>eN (gName 6) bL (iU π) ρ) e).trans ?_
  rw [zDZ hp]
  rfl
 obtain ⟨π0,hπ0⟩:=zBK kz
 obtain ⟨t,t1,t2,tz,e0⟩:=one π0 hπ0
 have pw':∀ i∈List.range cs.length,0 < cR ws i:=fun i h=>pw i (List.mem_range.mp h)
 refine ⟨t,t1,?_,t2,tz⟩
 unfold cO
 walk_at "ev"
 rw [sw.sum]
 walk_at "ev"
 rw [sc.len]
 walk_at "ev"
 rw [zDg (by omega)]
 walk_at "ev"
 have hfs:Res.bind ((aB (eF (fQ dG (aB (aF 0) (aB (aF 1) aNil)))) aNil) [.val wd,.val cd,.val (dq q),.val (dq q),.val (.int ws.sum),.own (List.replicate cs.length (dq 0)),.un,.un]) iG=.ok kz:=by
  walk_at "ev"
  rw [rR sw sc hW hi]
  walk_at "ev"
  exact hkr
 have hall:∀ π,fF kz π->aY (fun ρ=>eN (gName 6) bL (iU π) ρ) iR [.val wd,.val cd,.val (dq q),.val (dq q),.val (.int ws.sum),.own (List.replicate cs.length (dq 0)),.un,.un]=.ok (.ret (.f ((evs ws cs t).map dq))):=fun π hπ=>by
  obtain ⟨u,_,u2,_,eu⟩:=one π hπ
  rw [eu]
  unfold evs
  rw [List.map_congr_left (yC pw' (u2.trans t2.symm))]
 unfold lZ
 rw [zFa hfs hall]
 rfl
def ones (cs:List Int):List Int:=List.replicate cs.length 1
theorem dO (cs:List Int):Wt (ones cs) cs:=⟨List.length_replicate,fun w h=>by rw [(List.mem_replicate.mp h).2];decide,fun w h=>by rw [(List.mem_replicate.mp h).2];decide⟩
def hf:Rat:=Rat.divInt 1 2
theorem mE:hf=1 / 2:=by unfold hf;rw [Rat.divInt_eq_div];rfl
theorem zIE:d_HALF=dq hf:=zME (b:=2) (by decide)
theorem wH:Sz 2 hf:=Sz.of (by decide) (by decide) (by decide)
theorem dbl (q:Rat):q+q=q * ((2:Int):Rat):=by rw [show ((2:Int):Rat)=2 from rfl];grind
theorem zFt {q:Rat} {n:Nat} (h:Sz n q):Sz (n+2) (q+q):=by rw [dbl];exact h.mul (bX (by decide) (by decide))
def hvs (cs:List Int) (t:Rat):List Rat:=(List.range cs.length).map fun i=>gets (cR cs) (cR (ones cs)) t i * hf
structure Lvl (M:Nat) (ws cs:List Int) (q t:Rat):Prop where
 nn:0<=t
 sum:(evs ws cs t).sum=q
 sz:∀ i,i < cs.length->Sz M (gets (cR cs) (cR ws) t i)
theorem zAi {cs:List Int} {cd:D} (sc:Sq cd cs) {q:Rat} {m:Nat} (hm:m<=2990) (hc:Cl cs) (hq:Sz m q) (h0:0<=q) (h1:q+q<=(cs.sum:Rat)):∃ t,Lvl (m+157) (ones cs) cs (q+q) t/\eG [cd,dq q]=.ok (.f ((hvs cs t).map dq)):=by
 have hi:=hc.hi
 obtain ⟨t,t1,e,t2,tz⟩:=qG (wd:=.lst ((ones cs).map D.int)) (.inl rfl) sc (m:=m+2) (by omega) (dO cs) hc (zFt hq) (by grind) h1
 refine ⟨t,⟨t1,t2,fun i h=>(tz i h).mono (by omega)⟩,?_⟩
 have eo:(ones cs).map D.int=List.replicate cs.length (.int 1):=by unfold ones;rw [List.map_replicate]
 rw [eo] at e
 have hh:=zIE
 unfold d_HALF at hh
 unfold eG
 walk_at "ev"
 rw [sc.len]
 walk_at "ev"
 rw [zDg (by omega)]
 walk_at "ev"
 rw [zCu hq hq (by omega)]
 walk_at "ev"
 rw [e]
 walk_at "ev"
 rw [show (evs (ones cs) cs t).map dq=(List.range cs.length).map (fun i=>dq (gets (cR cs) (cR (ones cs)) t i)) by unfold evs;rw [List.map_map];rfl]
 rw [eS (u:=fun i=>dq (gets (cR cs) (cR (ones cs)) t i)) (g:=fun i=>dq (gets (cR cs) (cR (ones cs)) t i * hf)) (by rw [List.length_range];omega) (fun i h=>by
  have hil:=List.mem_range.mp h
  walk_at "ev"
  rw [hh,mH (tz i hil) wH (by omega)]
  walk_at "ev")]
 walk_at "ev"
 unfold hvs
 rw [List.map_map]
 rfl
theorem Lvl.mono {M M':Nat} {ws cs:List Int} {q t:Rat} (h:Lvl M ws cs q t) (l:M<=M'):Lvl M' ws cs q t:=⟨h.nn,h.sum,fun i hi=>(h.sz i hi).mono l⟩
theorem tN {w v:Str} (h:aT.lookup w=some v):dJ [.str w]=.ok (.v .non):=by
 unfold dJ
 walk_at "ev"
 rw [h]
 rfl
theorem sM {cs:List Int} {cd:D} (sc:Sq cd cs) (hc:Cl cs):dE [cd]=.ok (.v .non):=by
 have lo:=hc.lo
 unfold dE
 walk_at "ev"
 rw [sc.len]
 walk_at "ev"
 rw [decide_eq_false (by omega)]
 walk_at "ev"
 rw [sc.seq]
 walk_at "ev"
 refine xU (Q:=fun r=>r=(.ok (.v .non):Res Rt)) (fun ρ=>∃ a,ρ=[.val cd,a]) ⟨_,rfl⟩ ?_ ?_
 ·rintro e ρ he ⟨a,rfl⟩
  obtain ⟨c,h,rfl⟩:=List.mem_map.mp he
  have:=hc.nn c h
  refine ⟨_,?_,.val (.int c),rfl⟩
  walk_at "ev"
  rw [decide_eq_false (by omega)]
  walk_at "ev"
 ·rintro ρ ⟨a,rfl⟩
  rfl
theorem lC {α β:Type} (l:List α) (f:Nat->β) (d:α):l.zip ((List.range l.length).map f)=(List.range l.length).map fun i=>(l.getD i d,f i):=by
 refine List.ext_getElem? fun i=>?_
 rw [List.getElem?_map]
 by_cases h:i < l.length
 ·rw [List.getElem?_range h]
  refine List.getElem?_zip_eq_some.mpr ⟨?_,by rw [List.getElem?_map,List.getElem?_range h];rfl⟩
  show l[i]?=some (l.getD i d)
  rw [List.getD_eq_getElem?_getD,List.getElem?_eq_getElem h];rfl
 ·rw [List.getElem?_eq_none (by rw [List.length_zip];omega),List.getElem?_eq_none (by rw [List.length_range];omega)];rfl
theorem iJ {w:Str} {d:D} {n:Int} (hd:d=.lst []∨d=.tup []) (hw:oIn (.str w) d_WEIGHTED=.ok (.bl false)):bJ [.str w,d,.int n]=.ok (.v .non):=by
 have sq:zIH d=.ok []:=by rcases hd with rfl | rfl<;>rfl
 have ln:kP [d]=.ok (.int 0):=by rcases hd with rfl | rfl<;>rfl
 unfold d_WEIGHTED at hw
 unfold bJ
 walk_at "ev"
 rw [hw]
 walk_at "ev"
 rw [ln]
 walk_at "ev"
 rw [sq]
 rfl
theorem zPI:sX 10 6=true:=by decide
theorem nL {w:Str} {ws cs:List Int} {wd:D} (sw:Sq wd ws) (hW:Wt ws cs) (hw:oIn (.str w) d_WEIGHTED=.ok (.bl true)):bJ [.str w,wd,.int cs.length]=.ok (.v .non):=by
 have hl:=hW.len
 unfold d_WEIGHTED at hw
 unfold bJ
 walk_at "ev"
 rw [hw]
 walk_at "ev"
 rw [sw.len]
 walk_at "ev"
 rw [hl,decide_eq_true rfl]
 walk_at "ev"
 rw [sw.seq]
 walk_at "ev"
 refine xU (Q:=fun r=>r=(.ok (.v .non):Res Rt)) (fun ρ=>∃ a,ρ=[.val (.str w),.val wd,.val (.int cs.length),.val (.int cs.length),a]) ⟨_,rfl⟩ ?_ ?_
 ·rintro e ρ he ⟨a,rfl⟩
  obtain ⟨c,h,rfl⟩:=List.mem_map.mp he
  have h1:=hW.lo c h
  have h2:=hW.up c h
  refine ⟨_,?_,.val (.int c),rfl⟩
  walk_at "ev"
  rw [decide_eq_false (by omega)]
  walk_at "ev"
  rw [oPow_i zPI]
  walk_at "ev"
  rw [decide_eq_false (by omega)]
  walk_at "ev"
 ·rintro ρ ⟨a,rfl⟩
  rfl
theorem zPb:(Str.ofString "even" == Str.ofString "row")=false:=by decide
theorem zPw:(Str.ofString "lack" == Str.ofString "row")=false:=by decide
theorem zPq:(Str.ofString "lack" == Str.ofString "even")=false:=by decide
theorem zPa:(Str.ofString "lack" == Str.ofString "part")=false:=by decide
theorem zPe:(Str.ofString "lack" == Str.ofString "half")=false:=by decide
theorem zDh:(aT.lookup (Str.ofString "even"))=some (Str.ofString "lack"):=by decide
theorem yF:(aT.lookup (Str.ofString "lack"))=some (Str.ofString "even"):=by decide
theorem zII {n:Nat} {ws cs:List Int} {wd cd:D} (sw:Sq wd ws) (sc:Sq cd cs) {q:Rat} {m:Nat} (hm:m<=3000) (hW:Wt ws cs) (hc:Cl cs) (hq:Sz m q) (h0:0<=q) (h1:q<=(cs.sum:Rat)):∃ t,Lvl (m+155) ws cs q t/\aM (n+1) [.str (Str.ofString "even"),wd,cd,dq q]=.ok (.f ((evs ws cs t).map dq)):=by
 obtain ⟨t,t1,e,t2,tz⟩:=qG sw sc hm hW hc hq h0 h1
 refine ⟨t,⟨t1,t2,tz⟩,?_⟩
 show aQ (aM n) _=_
 unfold aQ
 walk_at "ev"
 rw [sc.sum]
 walk_at "ev"
 rw [bU]
 walk_at "ev"
 rw [zPb]
 walk_at "ev"
 rw [e]
 walk_at "ev"
def lks (ws cs:List Int) (t:Rat):List Rat:=(cs.zip (evs ws cs t)).map fun p=>(p.1:Rat) - p.2
theorem zNt (ws cs:List Int) (t:Rat):lks ws cs t=(List.range cs.length).map fun i=>cR cs i - gets (cR cs) (cR ws) t i:=by
 unfold lks evs
 rw [lC cs _ 0,List.map_map]
 rfl
theorem zNF {n:Nat} {ws cs:List Int} {wd cd:D} (sw:Sq wd ws) (sc:Sq cd cs) {q:Rat} {m:Nat} (hm:m<=2890) (hW:Wt ws cs) (hc:Cl cs) (hq:Haul m q cs.sum):∃ t,Lvl (m+261) ws cs ((cs.sum:Rat) - q) t/\aM (n+2) [.str (Str.ofString "lack"),wd,cd,dq q]=.ok (.f ((lks ws cs t).map dq)):=by
 have sm:=hc.sum
 have hi:=hc.hi
 have zW:Sz 105 (cs.sum:Rat):=bX (by omega) (by decide)
 have zT:Sz (m+106) ((cs.sum:Rat) - q):=(zW.sub hq.sz).mono (by omega)
 have u:=hq.up
 have u':=hq.nn
 obtain ⟨t,tl,e⟩:=zII sw sc (n:=n) (m:=m+106) (by omega) hW hc zT (by grind) (by grind)
 refine ⟨t,tl,?_⟩
 show aQ (aM (n+1)) _=_
 unfold aQ
 walk_at "ev"
 rw [sc.sum]
 walk_at "ev"
 rw [bU]
 walk_at "ev"
 rw [zPw]
 walk_at "ev"
 rw [zPq]
 walk_at "ev"
 rw [zPa]
 walk_at "ev"
 rw [zPe]
 walk_at "ev"
 rw [show sZ aT (.str (Str.ofString "lack"))=.ok (.str (Str.ofString "even")) by show zLx (aT.lookup (Str.ofString "lack"))=_;rw [yF];rfl]
 walk_at "ev"
 rw [eA zW hq.sz (by omega)]
 walk_at "ev"
 rw [e]
 walk_at "ev"
 rw [lB sc.seqo rfl]
 walk_at "ev"
 rw [jD (u:=D.int) (v:=dq) (g:=fun c l=>dq ((c:Rat) - l)) (by omega) (fun p hp=>by
  have hp':=hp
  unfold evs at hp'
  rw [lC cs _ 0] at hp'
  obtain ⟨i,hir,rfl⟩:=List.mem_map.mp hp'
  have hil:=List.mem_range.mp hir
  have c1:=hc.nn _ (List.mem_of_getElem? (bG hil))
  have c2:=hc.up _ (List.mem_of_getElem? (bG hil))
  walk_at "ev"
  rw [bU]
  walk_at "ev"
  rw [eA (m:=100) (n:=m+261) (bX (by omega) (by decide)) (tl.sz i hil) (by omega)]
  walk_at "ev")]
 walk_at "ev"
 unfold lks
 rw [List.map_map]
 rfl
theorem zOx:(Str.ofString "half" == Str.ofString "row")=false:=by decide
theorem zOu:(Str.ofString "half" == Str.ofString "even")=false:=by decide
theorem zOK:(Str.ofString "half" == Str.ofString "part")=false:=by decide
theorem yE:(aT.lookup (Str.ofString "half"))=some (Str.ofString "half"):=by decide
theorem zET {n:Nat} {e:D} {cs:List Int} {cd:D} (sc:Sq cd cs) {q:Rat} {m:Nat} (hm:m<=2990) (hc:Cl cs) (hq:Sz m q) (h0:0<=q) (h1:q+q<=(cs.sum:Rat)):∃ t,Lvl (m+157) (ones cs) cs (q+q) t/\aM (n+1) [.str (Str.ofString "half"),e,cd,dq q]=.ok (.f ((hvs cs t).map dq)):=by
 have sm:=hc.sum
 have zW:Sz 105 (cs.sum:Rat):=bX (by omega) (by decide)
 obtain ⟨t,tl,ee⟩:=zAi sc hm hc hq h0 h1
 refine ⟨t,tl,?_⟩
 show aQ (aM n) _=_
 unfold aQ
 walk_at "ev"
 rw [sc.sum]
 walk_at "ev"
 rw [bU]
 walk_at "ev"
 rw [zOx]
 walk_at "ev"
 rw [zOu]
 walk_at "ev"
 rw [zOK]
 walk_at "ev"
 rw [zCu hq hq (by omega)]
 walk_at "ev"
 rw [sK zW (zFt hq) (by omega),decide_eq_false (Rat.not_lt.mpr h1)]
 walk_at "ev"
 rw [ee]
 walk_at "ev"
def lhs (cs:List Int) (t:Rat):List Rat:=(List.range cs.length).map fun i=>cR cs i - gets (cR cs) (cR (ones cs)) t i * hf
theorem zKj {n:Nat} {e:D} {cs:List Int} {cd:D} (sc:Sq cd cs) {q:Rat} {m:Nat} (hm:m<=2880) (hc:Cl cs) (hq:Haul m q cs.sum) (h1:(cs.sum:Rat) < q+q):∃ t,Lvl (m+263) (ones cs) cs (((cs.sum:Rat) - q)+((cs.sum:Rat) - q)) t/\aM (n+2) [.str (Str.ofString "half"),e,cd,dq q]=.ok (.f ((lhs cs t).map dq)):=by
 have sm:=hc.sum
 have hi:=hc.hi
 have zW:Sz 105 (cs.sum:Rat):=bX (by omega) (by decide)
 have zT:Sz (m+106) ((cs.sum:Rat) - q):=(zW.sub hq.sz).mono (by omega)
 have u:=hq.up
 obtain ⟨t,tl,ee⟩:=zET sc (n:=n) (e:=e) (m:=m+106) (by omega) hc zT (by grind) (by grind)
 refine ⟨t,tl,?_⟩
 show aQ (aM (n+1)) _=_
 unfold aQ
 walk_at "ev"
 rw [sc.sum]
 walk_at "ev"
 rw [bU]
 walk_at "ev"
 rw [zOx]
 walk_at "ev"
 rw [zOu]
 walk_at "ev"
 rw [zOK]
 walk_at "ev"
 rw [zCu hq.sz hq.sz (by omega)]
 walk_at "ev"
 rw [sK zW (zFt hq.sz) (by omega),decide_eq_true h1]
 walk_at "ev"
 rw [show sZ aT (.str (Str.ofString "half"))=.ok (.str (Str.ofString "half")) by show zLx (aT.lookup (Str.ofString "half"))=_;rw [yE];rfl]
 walk_at "ev"
 rw [eA zW hq.sz (by omega)]
 walk_at "ev"
 rw [ee]
 walk_at "ev"
 rw [lB sc.seqo rfl]
 walk_at "ev"
 rw [jD (u:=D.int) (v:=dq) (g:=fun c l=>dq ((c:Rat) - l)) (by omega) (fun p hp=>by
  have hp':=hp
  unfold hvs at hp'
  rw [lC cs _ 0] at hp'
  obtain ⟨i,hir,rfl⟩:=List.mem_map.mp hp'
  have hil:=List.mem_range.mp hir
  have c1:=hc.nn _ (List.mem_of_getElem? (bG hil))
  have c2:=hc.up _ (List.mem_of_getElem? (bG hil))
  walk_at "ev"
  rw [bU]
  walk_at "ev"
  rw [eA (m:=100) (n:=m+263+2) (bX (by omega) (by decide)) ((tl.sz i hil).mul wH) (by omega)]
  walk_at "ev")]
 walk_at "ev"
 unfold hvs lhs
 rw [lC cs _ 0,List.map_map,List.map_map]
 rfl
theorem zPh:(Str.ofString "back" == Str.ofString "row")=false:=by decide
theorem zPi:(Str.ofString "back" == Str.ofString "even")=false:=by decide
theorem zPs:(Str.ofString "back" == Str.ofString "part")=false:=by decide
theorem zPf:(Str.ofString "back" == Str.ofString "half")=false:=by decide
theorem zOS:(Str.ofString "part" == Str.ofString "row")=false:=by decide
theorem zPr:(Str.ofString "part" == Str.ofString "even")=false:=by decide
theorem zGd:(aT.lookup (Str.ofString "row"))=some (Str.ofString "back"):=by decide
theorem wI:(aT.lookup (Str.ofString "back"))=some (Str.ofString "row"):=by decide
theorem zDv:(aT.lookup (Str.ofString "part"))=some (Str.ofString "part"):=by decide
theorem zMC {n:Nat} {d e:D} {cs:List Int} {q:Rat} (hd:d=.lst (cs.map D.int)∨d=.tup (cs.map D.int)) {m:Nat} (hm:m<=3000) (hc:Cl cs) (hq:Sz m q) (h0:0<=q):aM (n+1) [.str (Str.ofString "row"),e,d,dq q]=.ok (.f ((iD cs 0 q).map dq)):=by
 have su:zBm [d]=.ok (.int cs.sum):=by rcases hd with rfl | rfl;exact bSum_l;exact bSum_t
 show aQ (aM n) _=_
 unfold aQ
 walk_at "ev"
 rw [su]
 walk_at "ev"
 rw [bU]
 walk_at "ev"
 rw [zCd hd hm hc hq h0]
 walk_at "ev"
theorem zNE {n:Nat} {d e:D} {cs:List Int} {q:Rat} (hd:d=.lst (cs.map D.int)∨d=.tup (cs.map D.int)) {m:Nat} (hm:m<=3000) (hc:Cl cs) (hq:Sz m q):aM (n+1) [.str (Str.ofString "part"),e,d,dq q]=.ok (.f ((xX cs q).map dq)):=by
 have su:zBm [d]=.ok (.int cs.sum):=by rcases hd with rfl | rfl;exact bSum_l;exact bSum_t
 show aQ (aM n) _=_
 unfold aQ
 walk_at "ev"
 rw [su]
 walk_at "ev"
 rw [bU]
 walk_at "ev"
 rw [zOS]
 walk_at "ev"
 rw [zPr]
 walk_at "ev"
 rw [zBd hd hm hc hq]
 walk_at "ev"
theorem zIP (f g:Nat->Rat):∀ n:Nat,((List.range n).map fun i=>f i - g i).sum=((List.range n).map f).sum - ((List.range n).map g).sum
 | 0=>by simp only [List.range_zero,List.map_nil,List.sum_nil];grind
 | n+1=>by
  rw [List.range_succ,List.map_append,List.map_append,List.map_append,List.sum_append,List.sum_append,List.sum_append,zIP f g n]
  simp only [List.map_cons,List.map_nil,List.sum_cons,List.sum_nil]
  grind
theorem oO (cs:List Int):((List.range cs.length).map (cR cs)).sum=(cs.sum:Rat):=by
 have e:=kL cs (List.range cs.length)
 rw [wT cs _ (Nat.le_refl _),List.take_length] at e
 exact e
theorem jJ {ws cs:List Int} {t:Rat} (hW:Wt ws cs) (hc:Cl cs) (h0:0<=t) {i:Nat} (hi:i < cs.length):0<=gets (cR cs) (cR ws) t i/\gets (cR cs) (cR ws) t i<=cR cs i:=by
 have w:=(hW.at hi).1
 have c:=hc.nn _ (List.mem_of_getElem? (bG hi))
 have w':(0:Rat)<=cR ws i:=by unfold cR;exact_mod_cast (show 0<=ws.getD i 0 by omega)
 have c':(0:Rat)<=cR cs i:=by unfold cR;exact_mod_cast c
 have:=Rat.mul_nonneg w' h0
 unfold gets mn
 grind
theorem zCZ (l:List Int):dep (.lst (l.map D.int))<=2:=by
 have:depS (l.map D.int)<=1:=by
  induction l with
  | nil=>exact Nat.zero_le _
  | cons a l ih=>rw [List.map_cons];show max 0 (depS (l.map D.int))<=1;omega
 show depS (l.map D.int)+1<=2
 omega
theorem zIL (x:Rat):(x.num:Rat)=x * ((x.den:Int):Rat):=by
 have d0:=iX x
 have nd:((x.den:Int):Rat)≠0:=fun z=>by
  have:(x.den:Int)=0:=by exact_mod_cast z
  omega
 have h1:=Rat.num_divInt_den x
 rw [Rat.divInt_eq_div] at h1
 rw [<-Rat.div_mul_cancel (a:=(x.num:Rat)) nd,h1]
theorem zEX {l:List Rat} {n:Nat} (h:l.length=n):l=(List.range n).map fun i=>l.getD i 0:=by
 refine List.ext_getElem? fun i=>?_
 rw [List.getElem?_map]
 by_cases hi:i < n
 ·rw [List.getElem?_range hi,List.getElem?_eq_getElem (by omega)]
  show _=some (l.getD i 0)
  rw [List.getD_eq_getElem?_getD,List.getElem?_eq_getElem (by omega)];rfl
 ·rw [List.getElem?_eq_none (by omega),List.getElem?_eq_none (by rw [List.length_range];omega)];rfl
def zEt (cs:List Int) (q:Rat) (i:Nat):Rat:=(iD cs 0 q).getD i 0
theorem zGh:∀ (cs:List Int) (a:Int) (q:Rat) (i:Nat),(∀ c∈cs,0<=c)->i < cs.length->0<=(iD cs a q).getD i 0/\(iD cs a q).getD i 0<=cR cs i
 | c::r,a,q,0,h,_=>by
  have c0:(0:Rat)<=(c:Rat):=by exact_mod_cast h c List.mem_cons_self
  show 0<=mn (ps0 (q - (a:Rat))) (c:Rat)/\mn (ps0 (q - (a:Rat))) (c:Rat)<=(c:Rat)
  unfold mn ps0
  grind
 | c::r,a,q,i+1,h,hi=>zGh r (a+c) q i (fun x hx=>h x (List.mem_cons_of_mem _ hx)) (by rw [List.length_cons] at hi;omega)
theorem sH:∀ (cs:List Int) (a:Int) {q q':Rat} (i:Nat),q<=q'->(iD cs a q).getD i 0<=(iD cs a q').getD i 0
 | [],_,_,_,_,_=>Rat.le_refl
 | c::r,a,q,q',0,h=>by
  show mn (ps0 (q - (a:Rat))) (c:Rat)<=mn (ps0 (q' - (a:Rat))) (c:Rat)
  unfold mn ps0
  grind
 | c::r,a,q,q',i+1,h=>sH r (a+c) i h
theorem zDa:∀ (cs:List Int) (a:Int) (q:Rat),(∀ c∈cs,0<=c)->0<=cs.sum/\(iD cs a q).sum=mn (ps0 (q - (a:Rat))) (cs.sum:Rat)
 | [],a,q,_=>⟨Int.le_refl _,by show (0:Rat)=mn (ps0 _) ((0:Int):Rat);rw [show ((0:Int):Rat)=0 from rfl];unfold mn ps0;grind⟩
 | c::r,a,q,h=>by
  have c0:=h c List.mem_cons_self
  obtain ⟨s0,e⟩:=zDa r (a+c) q fun x hx=>h x (List.mem_cons_of_mem _ hx)
  have c0':(0:Rat)<=(c:Rat):=by exact_mod_cast c0
  have s0':(0:Rat)<=(r.sum:Rat):=by exact_mod_cast s0
  rw [List.sum_cons]
  refine ⟨by omega,?_⟩
  rw [iD,List.sum_cons,e,Rat.intCast_add,Rat.intCast_add]
  unfold mn ps0
  grind
theorem zFX {q:Rat} {m:Nat} (hq:Sz m q):∀ (cs:List Int) (a:Int),(∀ c∈cs,0<=c)->(∀ c∈cs,c < 10^30)->0<=a->a+cs.length * 10^30 < 2^110->∀ x∈iD cs a q,Sz (m+111) x
 | [],_,_,_,_,_,x,hx=>by cases hx
 | c::r,a,h1,h2,h3,h4,x,hx=>by
  have c0:=h1 c List.mem_cons_self
  have c1:=h2 c List.mem_cons_self
  rw [List.length_cons] at h4
  have e4:((r.length+1:Nat):Int) * 10^30=(r.length:Int) * 10^30+10^30:=by rw [Int.natCast_add,Int.add_mul];rfl
  have r0:0<=(r.length:Int) * 10^30:=Int.mul_nonneg (by omega) (by decide)
  rw [iD] at hx
  rcases List.mem_cons.mp hx with rfl | hx
  ·exact zJX (zLI (hq.sub (bX (n:=110) (by omega) (by decide))) (by omega)) (Sz.mono (m:=100) (bX (by omega) (by decide)) (by omega))
  ·exact zFX hq r (a+c) (fun x hx=>h1 x (List.mem_cons_of_mem _ hx)) (fun x hx=>h2 x (List.mem_cons_of_mem _ hx)) (by omega) (by omega) x hx
theorem zBn {cs:List Int} {q:Rat} {m:Nat} (hc:Cl cs) (hq:Sz m q) (h0:0<=q) (h1:q<=(cs.sum:Rat)):(iD cs 0 q=(List.range cs.length).map (zEt cs q))/\(iD cs 0 q).sum=q/\∀ x∈iD cs 0 q,Sz (m+111) x:=by
 have hi:=hc.hi
 refine ⟨zEX (zBa _ _ _),?_,zFX hq cs 0 hc.nn hc.up (by decide) (by omega)⟩
 rw [(zDa cs 0 q hc.nn).2,show ((0:Int):Rat)=0 from rfl]
 unfold mn ps0
 grind
theorem zLM {n:Nat} {e:D} {cs:List Int} {cd:D} (sc:Sq cd cs) {q:Rat} {m:Nat} (hm:m<=2890) (hc:Cl cs) (hq:Haul m q cs.sum):aM (n+2) [.str (Str.ofString "back"),e,cd,dq q]=.ok (.f (((List.range cs.length).map fun i=>cR cs i - zEt cs ((cs.sum:Rat) - q) i).map dq)):=by
 have sm:=hc.sum
 have hi:=hc.hi
 have zW:Sz 105 (cs.sum:Rat):=bX (by omega) (by decide)
 have zT:Sz (m+106) ((cs.sum:Rat) - q):=(zW.sub hq.sz).mono (by omega)
 have u:=hq.up
 have u':=hq.nn
 obtain ⟨r1,r2,r3⟩:=zBn hc zT (by grind) (by grind)
 have ee:=zMC (n:=n) (e:=e) sc (m:=m+106) (by omega) hc zT (by grind)
 show aQ (aM (n+1)) _=_
 unfold aQ
 walk_at "ev"
 rw [sc.sum]
 walk_at "ev"
 rw [bU]
 walk_at "ev"
 rw [zPh]
 walk_at "ev"
 rw [zPi]
 walk_at "ev"
 rw [zPs]
 walk_at "ev"
 rw [zPf]
 walk_at "ev"
 rw [show sZ aT (.str (Str.ofString "back"))=.ok (.str (Str.ofString "row")) by show zLx (aT.lookup (Str.ofString "back"))=_;rw [wI];rfl]
 walk_at "ev"
 rw [eA zW hq.sz (by omega)]
 walk_at "ev"
 rw [ee]
 walk_at "ev"
 rw [lB sc.seqo rfl]
 walk_at "ev"
 rw [jD (u:=D.int) (v:=dq) (g:=fun c l=>dq ((c:Rat) - l)) (by omega) (fun p hp=>by
  obtain ⟨p1,p2⟩:=List.of_mem_zip hp
  have c1:=hc.nn _ p1
  have c2:=hc.up _ p1
  walk_at "ev"
  rw [bU]
  walk_at "ev"
  rw [eA (m:=100) (n:=m+106+111) (bX (by omega) (by decide)) (r3 _ p2) (by omega)]
  walk_at "ev")]
 walk_at "ev"
 rw [r1,lC cs _ 0,List.map_map,List.map_map]
 rfl
def jC (cs:List Int) (q:Rat) (i:Nat):Rat:=(xX cs q).getD i 0
theorem zCP {cs:List Int} {q:Rat} {i:Nat} (hi:i < cs.length):jC cs q i=Rat.divInt (cs.getD i 0 * q.num) (max 1 cs.sum * q.den):=by
 unfold jC xX
 rw [List.getD_eq_getElem?_getD,List.getElem?_map,bG hi]
 rfl
theorem kW {cs:List Int} {q:Rat} (hc:Cl cs) {i:Nat} (hi:i < cs.length):jC cs q i * (cs.sum:Rat)=q * cR cs i/\(cs.sum=0->jC cs q i=0):=by
 have sm:=hc.sum
 have e:=zCP (q:=q) hi
 by_cases z:cs.sum=0
 ·have c0:=nZ hc.nn z _ (List.mem_of_getElem? (bG hi))
  have p0:jC cs q i=0:=by rw [e,c0,Int.zero_mul,Rat.zero_divInt]
  refine ⟨?_,fun _=>p0⟩
  rw [p0]
  unfold cR
  rw [c0,show ((0:Int):Rat)=0 from rfl]
  grind
 ·have W0:0 < cs.sum:=by omega
  have nW:(cs.sum:Rat)≠0:=fun y=>by
   have:cs.sum=0:=by exact_mod_cast y
   omega
  refine ⟨?_,fun y=>absurd y z⟩
  rw [e,Int.max_eq_right (by omega),<-zGw W0]
  show q / (cs.sum:Rat) * cR cs i * (cs.sum:Rat)=_
  grind
theorem zGn {cs:List Int} {q:Rat} {m:Nat} (hc:Cl cs) (hq:Sz m q) {i:Nat} (hi:i < cs.length):Sz (m+370) (jC cs q i):=by
 have sm:=hc.sum
 have c1:=hc.nn _ (List.mem_of_getElem? (bG hi))
 have c2:=hc.up _ (List.mem_of_getElem? (bG hi))
 rw [zCP hi]
 have d0:=iX q
 have p:=Int.mul_pos (show 0 < max 1 cs.sum by omega) d0
 exact Sz.of (by omega) (Nat.lt_of_lt_of_le (dW (m:=100) (n:=m) (by omega) hq.1) (Nat.pow_le_pow_right (by decide) (by omega))) (Nat.lt_of_lt_of_le (dW (m:=110) (n:=m) (by omega) hq.d) (Nat.pow_le_pow_right (by decide) (by omega)))
inductive Wy where
 | row | back | even | lack | part | half
def Wy.s:Wy->Str
 | .row=>Str.ofString "row"
 | .back=>Str.ofString "back"
 | .even=>Str.ofString "even"
 | .lack=>Str.ofString "lack"
 | .part=>Str.ofString "part"
 | .half=>Str.ofString "half"
def Wy.due (w:Wy) (ws cs:List Int):Prop:=match w with
 | .even=>Wt ws cs
 | .lack=>Wt ws cs
 | _=>ws=[]
def Al (M:Nat) (ws cs:List Int) (q:Rat) (f:Nat->Rat):Wy->Prop
 | .row=>∀ i,i < cs.length->f i=zEt cs q i
 | .back=>∀ i,i < cs.length->f i=cR cs i - zEt cs ((cs.sum:Rat) - q) i
 | .even=>∃ t,Lvl M ws cs q t/\∀ i,i < cs.length->f i=gets (cR cs) (cR ws) t i
 | .lack=>∃ t,Lvl M ws cs ((cs.sum:Rat) - q) t/\∀ i,i < cs.length->f i=cR cs i - gets (cR cs) (cR ws) t i
 | .part=>∀ i,i < cs.length->f i=jC cs q i
 | .half=>∃ t,(q+q<=(cs.sum:Rat)/\Lvl M (ones cs) cs (q+q) t/\∀ i,i < cs.length->f i=gets (cR cs) (cR (ones cs)) t i * hf)∨((cs.sum:Rat) < q+q/\Lvl M (ones cs) cs (((cs.sum:Rat) - q)+((cs.sum:Rat) - q)) t/\∀ i,i < cs.length->f i=cR cs i - gets (cR cs) (cR (ones cs)) t i * hf)
theorem zEv {w:Wy} {ws cs:List Int} {wd cd:D} (sw:Sq wd ws) (sc:Sq cd cs) {q:Rat} {m:Nat} (hm:m<=2880) (hw:w.due ws cs) (hc:Cl cs) (hq:Haul m q cs.sum):∃ f,aM 2 [.str w.s,wd,cd,dq q]=.ok (.f (((List.range cs.length).map f).map dq))/\Al (m+263) ws cs q f w:=by
 have z:=hq.sz
 cases w with
 | row=>exact ⟨zEt cs q,by rw [<-(zBn hc z hq.nn hq.up).1];exact zMC sc (by omega) hc z hq.nn,fun i _=>rfl⟩
 | back=>exact ⟨_,zLM sc (by omega) hc hq,fun i _=>rfl⟩
 | even=>
  obtain ⟨t,tl,e⟩:=zII sw sc (n:=1) (by omega) hw hc z hq.nn hq.up
  exact ⟨_,e,t,tl.mono (by omega),fun i _=>rfl⟩
 | lack=>
  obtain ⟨t,tl,e⟩:=zNF sw sc (n:=0) (by omega) hw hc hq
  rw [zNt] at e
  exact ⟨_,e,t,tl.mono (by omega),fun i _=>rfl⟩
 | part=>
  refine ⟨jC cs q,?_,fun i _=>rfl⟩
  have e:xX cs q=(List.range cs.length).map (jC cs q):=zEX (by unfold xX;rw [List.length_map])
  rw [<-e]
  exact zNE sc (by omega) hc z
 | half=>
  by_cases h:(cs.sum:Rat) < q+q
  ·obtain ⟨t,tl,e⟩:=zKj sc (n:=0) (e:=wd) (by omega) hc hq h
   exact ⟨_,e,t,.inr ⟨h,tl,fun i _=>rfl⟩⟩
  ·obtain ⟨t,tl,e⟩:=zET sc (n:=1) (e:=wd) (by omega) hc z hq.nn (Rat.not_lt.mp h)
   exact ⟨_,e,t,.inl ⟨Rat.not_lt.mp h,tl.mono (by omega),fun i _=>rfl⟩⟩
theorem zKO (w:Wy):∃ v,aT.lookup w.s=some v:=by
 cases w
 ·exact ⟨_,zGd⟩
 ·exact ⟨_,wI⟩
 ·exact ⟨_,zDh⟩
 ·exact ⟨_,yF⟩
 ·exact ⟨_,zDv⟩
 ·exact ⟨_,yE⟩
theorem zIA {w:Wy} {ws cs:List Int} {wd cd:D} (sw:Sq wd ws) (sc:Sq cd cs) (hw:w.due ws cs) (hc:Cl cs):nM [.str w.s,wd,cd]=.ok (.v .non):=by
 have rw':bJ [.str w.s,wd,.int cs.length]=.ok (.v .non):=by
  cases w with
  | even=>exact nL sw hw rfl
  | lack=>exact nL sw hw rfl
  | row=>have e:ws=[]:=hw;rw [e] at sw;exact iJ sw rfl
  | back=>have e:ws=[]:=hw;rw [e] at sw;exact iJ sw rfl
  | part=>have e:ws=[]:=hw;rw [e] at sw;exact iJ sw rfl
  | half=>have e:ws=[]:=hw;rw [e] at sw;exact iJ sw rfl
 obtain ⟨v,hv⟩:=zKO w
 unfold nM
 walk_at "ev"
 rw [tN hv]
 walk_at "ev"
 rw [sM sc hc]
 walk_at "ev"
 rw [sc.len]
 walk_at "ev"
 rw [rw']
 walk_at "ev"
structure Dl (M:Nat) (cs:List Int) (q:Rat) (f:Nat->Rat):Prop where
 bd:∀ i,i < cs.length->0<=f i/\f i<=cR cs i/\Sz M (f i)
 sum:((List.range cs.length).map f).sum=q
theorem zM {f g:Nat->Rat} {n:Nat} (h:∀ i,i < n->f i=g i):((List.range n).map f).sum=((List.range n).map g).sum:=by rw [List.map_congr_left fun i hi=>h i (List.mem_range.mp hi)]
theorem Dl.congr {M:Nat} {cs:List Int} {q:Rat} {f g:Nat->Rat} (d:Dl M cs q g) (h:∀ i,i < cs.length->f i=g i):Dl M cs q f:=⟨fun i hi=>by rw [h i hi];exact d.bd i hi,by rw [zM h];exact d.sum⟩
theorem Dl.mono {M M':Nat} {cs:List Int} {q:Rat} {f:Nat->Rat} (d:Dl M cs q f) (h:M<=M'):Dl M' cs q f:=⟨fun i hi=>⟨(d.bd i hi).1,(d.bd i hi).2.1,(d.bd i hi).2.2.mono h⟩,d.sum⟩
theorem zIy {cs:List Int} (hc:Cl cs) {i:Nat} (hi:i < cs.length):0<=cR cs i/\Sz 100 (cR cs i):=by
 have c1:=hc.nn _ (List.mem_of_getElem? (bG hi))
 have c2:=hc.up _ (List.mem_of_getElem? (bG hi))
 exact ⟨by unfold cR;exact_mod_cast c1,bX (by omega) (by decide)⟩
theorem Dl.dual {M:Nat} {cs:List Int} {q q':Rat} {g:Nat->Rat} (hc:Cl cs) (d:Dl M cs q' g) (h:q'=(cs.sum:Rat) - q):Dl (100+M+1) cs q (fun i=>cR cs i - g i):=by
 refine ⟨fun i hi=>?_,?_⟩
 ·obtain ⟨b1,b2,b3⟩:=d.bd i hi
  exact ⟨by grind,by grind,(zIy hc hi).2.sub b3⟩
 ·rw [zIP,oO,d.sum]
  grind
theorem zIM {m:Nat} {cs:List Int} {q:Rat} (hc:Cl cs) (hq:Sz m q) (h0:0<=q) (h1:q<=(cs.sum:Rat)):Dl (m+111) cs q (zEt cs q):=by
 obtain ⟨e,s,z⟩:=zBn hc hq h0 h1
 refine ⟨fun i hi=>?_,by rw [<-e];exact s⟩
 obtain ⟨b1,b2⟩:=zGh cs 0 q i hc.nn hi
 exact ⟨b1,b2,z _ (by rw [e];exact List.mem_map.mpr ⟨i,List.mem_range.mpr hi,rfl⟩)⟩
theorem zJy {M:Nat} {ws cs:List Int} {q t:Rat} (hW:Wt ws cs) (hc:Cl cs) (tl:Lvl M ws cs q t):Dl M cs q (gets (cR cs) (cR ws) t):=
 ⟨fun i hi=>⟨(jJ hW hc tl.nn hi).1,(jJ hW hc tl.nn hi).2,tl.sz i hi⟩,tl.sum⟩
theorem zHe {M:Nat} {cs:List Int} {q t:Rat} (hc:Cl cs) (tl:Lvl M (ones cs) cs (q+q) t):Dl (M+2) cs q (fun i=>gets (cR cs) (cR (ones cs)) t i * hf):=by
 refine ⟨fun i h=>?_,?_⟩
 ·obtain ⟨b1,b2⟩:=jJ (dO cs) hc tl.nn h
  exact ⟨by rw [mE];grind,by rw [mE];grind,(tl.sz i h).mul wH⟩
 ·have e:=tl.sum
  have e2:=cZ (w:=gets (cR cs) (cR (ones cs)) t) (t:=hf) (l:=List.range cs.length)
  unfold evs at e
  unfold gE at e2
  rw [e2,e,mE]
  grind
theorem zKh {a b s:Rat} (hs:s≠0) (h:a * s=b * s):a=b:=by
 have e1:a * s / s=a:=by grind
 have e2:b * s / s=b:=by grind
 rw [<-e1,<-e2,h]
theorem rN {a b s:Rat} (hs:0 < s) (h:a * s<=b * s):a<=b:=Rat.le_of_mul_le_mul_right h hs
theorem zKa {m:Nat} {cs:List Int} {q:Rat} (hc:Cl cs) (hq:Sz m q) (h0:0<=q) (h1:q<=(cs.sum:Rat)):Dl (m+370) cs q (jC cs q):=by
 have sm:=hc.sum
 have cn:∀ i,i < cs.length->0<=cR cs i:=fun i hi=>(zIy hc hi).1
 have sc:gE (fun i=>jC cs q i * (cs.sum:Rat)) (List.range cs.length)=q * (cs.sum:Rat):=by
  rw [dM (g:=fun i=>cR cs i * q) fun i hi=>by rw [(kW hc (List.mem_range.mp hi)).1];grind]
  rw [cZ,show gE (cR cs) (List.range cs.length)=(cs.sum:Rat) from oO cs]
 rw [cZ] at sc
 by_cases z:cs.sum=0
 ·have p0:∀ i,i < cs.length->jC cs q i=cR cs i:=fun i hi=>by
   have c0:=nZ hc.nn z _ (List.mem_of_getElem? (bG hi))
   rw [(kW hc hi).2 z]
   unfold cR
   rw [c0]
   rfl
  refine ⟨fun i hi=>⟨by rw [p0 i hi];exact cn i hi,by rw [p0 i hi];exact Rat.le_refl,zGn hc hq hi⟩,?_⟩
  rw [zM p0,oO]
  have:(cs.sum:Rat)=0:=by rw [z];rfl
  grind
 ·have W:(0:Rat) < (cs.sum:Rat):=by exact_mod_cast (show 0 < cs.sum by omega)
  refine ⟨fun i hi=>?_,?_⟩
  ·have e:=(kW (q:=q) hc hi).1
   have c0:=cn i hi
   refine ⟨rN W (by rw [e];have:=Rat.mul_nonneg h0 c0;grind),rN W ?_,zGn hc hq hi⟩
   rw [e]
   have:=Rat.mul_le_mul_of_nonneg_right h1 c0
   grind
  ·exact zKh (s:=(cs.sum:Rat)) (by grind) (by rw [Rat.mul_comm];exact sc)
theorem zNe {m:Nat} {w:Wy} {ws cs:List Int} {q:Rat} {f:Nat->Rat} (hw:w.due ws cs) (hc:Cl cs) (hq:Haul m q cs.sum) (al:Al (m+263) ws cs q f w):Dl (m+370) cs q f:=by
 have sm:=hc.sum
 have zW:Sz 105 (cs.sum:Rat):=bX (by omega) (by decide)
 have z:=hq.sz
 have z':Sz (m+106) ((cs.sum:Rat) - q):=(zW.sub hq.sz).mono (by omega)
 have n:=hq.nn
 have u:=hq.up
 cases w with
 | row=>exact ((zIM hc z n u).mono (by omega)).congr al
 | back=>exact ((Dl.dual hc (zIM hc z' (by grind) (by grind)) rfl).mono (by omega)).congr al
 | even=>
  obtain ⟨t,tl,e⟩:=al
  exact ((zJy hw hc tl).mono (by omega)).congr e
 | lack=>
  obtain ⟨t,tl,e⟩:=al
  exact ((Dl.dual hc (zJy hw hc tl) rfl).mono (by omega)).congr e
 | part=>exact (zKa hc z n u).congr al
 | half=>
  obtain ⟨t,⟨c,tl,e⟩ | ⟨c,tl,e⟩⟩:=al
  ·exact ((zHe hc tl).mono (by omega)).congr e
  ·exact ((Dl.dual hc (zHe hc tl) rfl).mono (by omega)).congr e
theorem zCj:∀ (cs:List Int) (a:Int) (q:Rat) (i:Nat),i < cs.length->(iD cs a q).getD i 0=mn (ps0 (q - ((a+(cs.take i).sum:Int):Rat))) (cR cs i)
 | c::r,a,q,0,_=>by simp [iD,cR]
 | c::r,a,q,i+1,h=>by
  have ih:=zCj r (a+c) q i (by simpa using h)
  rw [List.take_succ_cons,List.sum_cons,<-Int.add_assoc]
  show (iD r (a+c) q).getD i 0=_
  rw [ih]
  rfl
def Dn (B:Int) (x:Rat):Prop:=∃ k:Int,x * (B:Rat)=(k:Rat)
theorem Dn.add {B:Int} {x y:Rat} (hx:Dn B x) (hy:Dn B y):Dn B (x+y):=by
 obtain ⟨a,ha⟩:=hx
 obtain ⟨b,hb⟩:=hy
 exact ⟨a+b,by rw [Rat.intCast_add,<-ha,<-hb];grind⟩
theorem Dn.sub {B:Int} {x y:Rat} (hx:Dn B x) (hy:Dn B y):Dn B (x - y):=by
 obtain ⟨a,ha⟩:=hx
 obtain ⟨b,hb⟩:=hy
 exact ⟨a - b,by rw [Rat.intCast_sub,<-ha,<-hb];grind⟩
theorem Dn.int (B c:Int):Dn B (c:Rat):=⟨c * B,by rw [Rat.intCast_mul]⟩
theorem Dn.zero (B:Int):Dn B 0:=Dn.int B 0
theorem Dn.mul {B:Int} {x:Rat} (h:Dn B x) (E:Int):Dn (B * E) x:=by
 obtain ⟨a,ha⟩:=h
 exact ⟨a * E,by rw [Rat.intCast_mul,Rat.intCast_mul,<-ha];grind⟩
theorem Dn.mn {B:Int} {x y:Rat} (hx:Dn B x) (hy:Dn B y):Dn B (Lw.mn x y):=by
 unfold Lw.mn
 split
 ·exact hx
 ·exact hy
theorem Dn.ps {B:Int} {x:Rat} (hx:Dn B x):Dn B (ps0 x):=by
 unfold ps0
 split
 ·exact Dn.zero B
 ·exact hx
theorem Dn.den (x:Rat):Dn (x.den:Int) x:=⟨x.num,(zIL x).symm⟩
theorem Dn.le {B:Int} {x:Rat} (h:Dn B x) (hB:0 < B):(x.den:Int)<=B:=by
 obtain ⟨a,ha⟩:=h
 have nB:(B:Rat)≠0:=fun z=>by
  have:B=0:=by exact_mod_cast z
  omega
 have e:x=Rat.divInt a B:=by
  rw [Rat.divInt_eq_div,<-ha]
  grind
 rw [e]
 exact zCC hB
theorem Dn.sz {B c:Int} {x:Rat} {a b:Nat} (h:Dn B x) (hB:0 < B) (hb:B < 2^b) (h0:0<=x) (h1:x<=(c:Rat)) (hc:c < 2^a):Sz (a+b) x:=by
 have le:=h.le hB
 have d0:=iX x
 have n0:0<=x.num:=Rat.num_nonneg.mpr h0
 have c0:0<=c:=by
  have:((0:Int):Rat)<=(c:Rat):=Rat.le_trans (by rw [show ((0:Int):Rat)=0 from rfl];exact h0) h1
  exact Rat.intCast_le_intCast.mp this
 have n1:x.num<=c * x.den:=by
  have:((x.num:Int):Rat)<=((c * x.den:Int):Rat):=by
   rw [Rat.intCast_mul,zIL]
   exact Rat.mul_le_mul_of_nonneg_right h1 (by have z:(0:Int)<=x.den:=(by omega);exact_mod_cast z)
  exact Rat.intCast_le_intCast.mp this
 have hb':(x.den:Int).natAbs < 2^b:=by
  have:((2:Nat)^b:Nat)=((2:Int)^b):=by rw [Int.natCast_pow];rfl
  omega
 have ha':c.natAbs < 2^a:=by
  have:((2:Nat)^a:Nat)=((2:Int)^a):=by rw [Int.natCast_pow];rfl
  omega
 have m:=dW ha' hb'
 refine ⟨by omega,?_⟩
 have:2^b<=2^(a+b):=Nat.pow_le_pow_right (by decide) (by omega)
 omega
theorem zAU {c w:Nat->Rat} {ci wi:Nat->Int} {t:Rat} (hc:∀ i,c i=(ci i:Rat)) (hw:∀ i,w i=(wi i:Rat)):∀ l:List Nat,(∀ i∈l,1<=wi i/\wi i<=10^6)->∃ F W:Int,gE (gets c w t) l=(W:Rat) * t+(F:Rat)/\0<=W/\W<=l.length * 10^6/\(W=0->∀ i∈l,gets c w t i=c i)
 | [],_=>⟨0,0,by rw [gO,show ((0:Int):Rat)=0 from rfl];grind,by decide,by decide,fun _ i h=>by cases h⟩
 | i::l,h=>by
  obtain ⟨F,W,e,w0,w1,f⟩:=zAU (t:=t) hc hw l fun j hj=>h j (List.mem_cons_of_mem _ hj)
  have hi:=h i List.mem_cons_self
  have ek:((l.length+1:Nat):Int) * 10^6=(l.length:Int) * 10^6+10^6:=by rw [Int.natCast_add,Int.add_mul];rfl
  rw [aW,List.length_cons]
  by_cases z:w i * t < c i
  ·have g:gets c w t i=w i * t:=if_pos z
   refine ⟨F,W+wi i,?_,by omega,by omega,fun z=>by omega⟩
   rw [g,e,Rat.intCast_add,hw]
   grind
  ·have g:gets c w t i=c i:=if_neg z
   refine ⟨F+ci i,W,?_,w0,by omega,fun z j hj=>?_⟩
   ·rw [g,e,Rat.intCast_add,hc]
    grind
   ·rcases List.mem_cons.mp hj with rfl | hj
    ·exact g
    ·exact f z j hj
theorem zPp {M:Nat} {ws cs:List Int} {q t:Rat} {B:Int} (hW:Wt ws cs) (hl:cs.length<=12) (tl:Lvl M ws cs q t) (hq:Dn B q):∃ E:Int,0 < E/\E<=12 * 10^6/\∀ i,i < cs.length->Dn (B * E) (gets (cR cs) (cR ws) t i):=by
 obtain ⟨F,W,e,w0,w1,f⟩:=zAU (c:=cR cs) (w:=cR ws) (ci:=fun i=>cs.getD i 0) (wi:=fun i=>ws.getD i 0) (t:=t) (fun _=>rfl) (fun _=>rfl) (List.range cs.length) fun i hi=>hW.at (List.mem_range.mp hi)
 have s:gE (gets (cR cs) (cR ws) t) (List.range cs.length)=q:=tl.sum
 rw [List.length_range] at w1
 by_cases z:W=0
 ·refine ⟨1,by decide,by decide,fun i hi=>?_⟩
  rw [f z i (List.mem_range.mpr hi)]
  exact Dn.int _ _
 ·refine ⟨W,by omega,by omega,fun i hi=>?_⟩
  unfold gets
  refine Dn.mn ?_ (Dn.int _ _)
  obtain ⟨k,hk⟩:=hq.sub (Dn.int B F)
  refine ⟨ws.getD i 0 * k,?_⟩
  rw [Rat.intCast_mul,Rat.intCast_mul,<-hk,<-s,e]
  show cR ws i * t * _=cR ws i * _
  grind
theorem zNa {B:Int} {x:Rat} (h:Dn B x):Dn (B * 2) (x * hf):=by
 obtain ⟨k,hk⟩:=h
 refine ⟨k,?_⟩
 rw [<-hk,Rat.intCast_mul,mE,show ((2:Int):Rat)=2 from rfl]
 grind
theorem zOR {cs:List Int} {q:Rat} {B:Int} (h:Dn B q) {i:Nat} (hi:i < cs.length):Dn B (zEt cs q i):=by
 unfold zEt
 rw [zCj cs 0 q i hi]
 exact Dn.mn (Dn.ps (h.sub (Dn.int _ _))) (Dn.int _ _)
theorem Al.mono {M M':Nat} {w:Wy} {ws cs:List Int} {q:Rat} {f:Nat->Rat} (h:Al M ws cs q f w) (l:M<=M'):Al M' ws cs q f w:=by
 cases w with
 | row=>exact h
 | back=>exact h
 | part=>exact h
 | even=>obtain ⟨t,tl,e⟩:=h;exact ⟨t,tl.mono l,e⟩
 | lack=>obtain ⟨t,tl,e⟩:=h;exact ⟨t,tl.mono l,e⟩
 | half=>
  obtain ⟨t,⟨c,tl,e⟩ | ⟨c,tl,e⟩⟩:=h
  ·exact ⟨t,.inl ⟨c,tl.mono l,e⟩⟩
  ·exact ⟨t,.inr ⟨c,tl.mono l,e⟩⟩
theorem zMU (q:Rat):Sz (q.num.natAbs+q.den) q:=⟨Nat.lt_of_lt_of_le Nat.lt_two_pow_self (Nat.pow_le_pow_right (by decide) (by omega)),Nat.lt_of_lt_of_le Nat.lt_two_pow_self (Nat.pow_le_pow_right (by decide) (by omega))⟩
theorem zOf {M:Nat} {w:Wy} {ws cs:List Int} {q:Rat} {f:Nat->Rat} (hw:w.due ws cs) (hc:Cl cs) (q0:0<=q) (q1:q<=(cs.sum:Rat)) (al:Al M ws cs q f w):(∀ i,i < cs.length->0<=f i/\f i<=cR cs i)/\((List.range cs.length).map f).sum=q:=by
 have d:=zNe (m:=q.num.natAbs+q.den+M) hw hc ⟨q0,q1,(zMU q).mono (by omega)⟩ (al.mono (by omega))
 exact ⟨fun i hi=>⟨(d.bd i hi).1,(d.bd i hi).2.1⟩,d.sum⟩
theorem kO {M M':Nat} {ws cs:List Int} {q q' t t':Rat} (hW:Wt ws cs) (a:Lvl M ws cs q t) (b:Lvl M' ws cs q' t') (h:q=q') {i:Nat} (hi:i < cs.length):gets (cR cs) (cR ws) t i=gets (cR cs) (cR ws) t' i:=by
 have pw:∀ j∈List.range cs.length,0 < cR ws j:=fun j hj=>by
  have:=(hW.at (List.mem_range.mp hj)).1
  unfold cR
  exact_mod_cast (show 0 < ws.getD j 0 by omega)
 exact yC (c:=cR cs) (w:=cR ws) pw (by show (evs ws cs t).sum=(evs ws cs t').sum;rw [a.sum,b.sum,h]) i (List.mem_range.mpr hi)
theorem zNI {M M':Nat} {w:Wy} {ws cs:List Int} {q:Rat} {f g:Nat->Rat} (hw:w.due ws cs) (a:Al M ws cs q f w) (b:Al M' ws cs q g w) {i:Nat} (hi:i < cs.length):f i=g i:=by
 cases w with
 | row=>rw [a i hi,b i hi]
 | back=>rw [a i hi,b i hi]
 | part=>rw [a i hi,b i hi]
 | even=>
  obtain ⟨t,tl,e⟩:=a
  obtain ⟨t',tl',e'⟩:=b
  rw [e i hi,e' i hi,kO hw tl tl' rfl hi]
 | lack=>
  obtain ⟨t,tl,e⟩:=a
  obtain ⟨t',tl',e'⟩:=b
  rw [e i hi,e' i hi,kO hw tl tl' rfl hi]
 | half=>
  have W:=dO cs
  obtain ⟨t,⟨c,tl,e⟩ | ⟨c,tl,e⟩⟩:=a
  ·obtain ⟨t',⟨c',tl',e'⟩ | ⟨c',tl',e'⟩⟩:=b
   ·rw [e i hi,e' i hi,kO W tl tl' rfl hi]
   ·exact absurd c' (Rat.not_lt.mpr c)
  ·obtain ⟨t',⟨c',tl',e'⟩ | ⟨c',tl',e'⟩⟩:=b
   ·exact absurd c (Rat.not_lt.mpr c')
   ·rw [e i hi,e' i hi,kO W tl tl' rfl hi]
theorem rB {M M':Nat} {ws cs:List Int} {q q' t t':Rat} (hW:Wt ws cs) (a:Lvl M ws cs q t) (b:Lvl M' ws cs q' t') (h:q<=q') {i:Nat} (hi:i < cs.length):gets (cR cs) (cR ws) t i<=gets (cR cs) (cR ws) t' i:=by
 have pw:∀ j∈List.range cs.length,0 < cR ws j:=fun j hj=>by
  have:=(hW.at (List.mem_range.mp hj)).1
  unfold cR
  exact_mod_cast (show 0 < ws.getD j 0 by omega)
 rcases Rat.le_total (a:=t) (b:=t') with g | g
 ·exact lG (pw i (List.mem_range.mpr hi)) g
 ·have le:∀ j∈List.range cs.length,gets (cR cs) (cR ws) t' j<=gets (cR cs) (cR ws) t j:=fun j hj=>lG (pw j hj) g
  have s1:gE (gets (cR cs) (cR ws) t') (List.range cs.length)=q':=b.sum
  have s2:gE (gets (cR cs) (cR ws) t) (List.range cs.length)=q:=a.sum
  have s3:=mZ le
  rw [pC le (by rw [s1,s2];rw [s1,s2] at s3;grind) i (List.mem_range.mpr hi)]
  exact Rat.le_refl
theorem zLb {M M':Nat} {w:Wy} {ws cs:List Int} {q q':Rat} {f g:Nat->Rat} (hw:w.due ws cs) (hc:Cl cs) (a:Al M ws cs q f w) (b:Al M' ws cs q' g w) (h:q<=q') {i:Nat} (hi:i < cs.length):f i<=g i:=by
 have sm:=hc.sum
 cases w with
 | row=>rw [a i hi,b i hi];exact sH cs 0 i h
 | back=>
  rw [a i hi,b i hi]
  have:=sH cs 0 (q:=(cs.sum:Rat) - q') (q':=(cs.sum:Rat) - q) i (by grind)
  unfold zEt
  grind
 | even=>
  obtain ⟨t,tl,e⟩:=a
  obtain ⟨t',tl',e'⟩:=b
  rw [e i hi,e' i hi]
  exact rB hw tl tl' h hi
 | lack=>
  obtain ⟨t,tl,e⟩:=a
  obtain ⟨t',tl',e'⟩:=b
  rw [e i hi,e' i hi]
  have:=rB hw tl' tl (by grind) hi
  grind
 | part=>
  rw [a i hi,b i hi]
  have c0:0<=cR cs i:=by unfold cR;exact_mod_cast hc.nn _ (List.mem_of_getElem? (bG hi))
  obtain ⟨p1,p2⟩:=kW (q:=q) hc hi
  obtain ⟨r1,r2⟩:=kW (q:=q') hc hi
  by_cases z:cs.sum=0
  ·rw [p2 z,r2 z];exact Rat.le_refl
  ·have W:(0:Rat) < (cs.sum:Rat):=by exact_mod_cast (show 0 < cs.sum by omega)
   exact rN W (by rw [p1,r1];exact Rat.mul_le_mul_of_nonneg_right h c0)
 | half=>
  have ow:=dO cs
  obtain ⟨t,⟨c,tl,e⟩ | ⟨c,tl,e⟩⟩:=a
  ·have b1:=(jJ ow hc tl.nn hi).2
   obtain ⟨t',⟨c',tl',e'⟩ | ⟨c',tl',e'⟩⟩:=b
   ·have:=rB ow tl tl' (by grind) hi
    rw [e i hi,e' i hi,mE]
    grind
   ·have b2:=(jJ ow hc tl'.nn hi).2
    rw [e i hi,e' i hi,mE]
    grind
  ·obtain ⟨t',⟨c',tl',e'⟩ | ⟨c',tl',e'⟩⟩:=b
   ·exfalso;grind
   ·have:=rB ow tl' tl (by grind) hi
    rw [e i hi,e' i hi,mE]
    grind
def Wy.con:Wy->Wy
 | .row=>.back
 | .back=>.row
 | .even=>.lack
 | .lack=>.even
 | .part=>.part
 | .half=>.half
theorem zCN {M:Nat} {ws cs:List Int} {q t:Rat} (hW:Wt ws cs) (hc:Cl cs) (a:Lvl M ws cs q t) (h:q=(cs.sum:Rat)) {i:Nat} (hi:i < cs.length):gets (cR cs) (cR ws) t i=cR cs i:=by
 have s:gE (gets (cR cs) (cR ws) t) (List.range cs.length)=q:=a.sum
 exact pC (fun j hj=>(jJ hW hc a.nn (List.mem_range.mp hj)).2) (by rw [s,h];exact (oO cs).symm) i (List.mem_range.mpr hi)
theorem zNu {M M':Nat} {w:Wy} {ws cs:List Int} {q:Rat} {f g:Nat->Rat} (hw:w.due ws cs) (hc:Cl cs) (hn:0<=q) (hu:q<=(cs.sum:Rat)) (a:Al M ws cs q f w) (b:Al M' ws cs ((cs.sum:Rat) - q) g w.con) {i:Nat} (hi:i < cs.length):g i=cR cs i - f i:=by
 have sm:=hc.sum
 have e0:(cs.sum:Rat) - ((cs.sum:Rat) - q)=q:=by grind
 cases w with
 | row=>
  have b':g i=cR cs i - zEt cs ((cs.sum:Rat) - ((cs.sum:Rat) - q)) i:=b i hi
  rw [b',e0,a i hi]
 | back=>
  have b':g i=zEt cs ((cs.sum:Rat) - q) i:=b i hi
  rw [b',a i hi]
  grind
 | even=>
  obtain ⟨t,tl,e⟩:=a
  obtain ⟨t',tl',e'⟩:=b
  rw [e i hi,e' i hi,kO hw tl' tl e0 hi]
 | lack=>
  obtain ⟨t,tl,e⟩:=a
  obtain ⟨t',tl',e'⟩:=b
  rw [e i hi,e' i hi,kO hw tl' tl rfl hi]
  grind
 | part=>
  have b':g i=jC cs ((cs.sum:Rat) - q) i:=b i hi
  have u:=hu
  have n:=hn
  obtain ⟨p1,p2⟩:=kW (q:=q) hc hi
  obtain ⟨r1,r2⟩:=kW (q:=(cs.sum:Rat) - q) hc hi
  rw [b',a i hi]
  by_cases z:cs.sum=0
  ·have c0:=nZ hc.nn z _ (List.mem_of_getElem? (bG hi))
   rw [p2 z,r2 z]
   unfold cR
   rw [c0,show ((0:Int):Rat)=0 from rfl]
   grind
  ·have W:(0:Rat) < (cs.sum:Rat):=by exact_mod_cast (show 0 < cs.sum by omega)
   have e:jC cs ((cs.sum:Rat) - q) i * (cs.sum:Rat)=(cR cs i - jC cs q i) * (cs.sum:Rat):=by rw [r1];grind
   have l1:=rN W (show jC cs ((cs.sum:Rat) - q) i * (cs.sum:Rat)<=(cR cs i - jC cs q i) * (cs.sum:Rat) by rw [e];exact Rat.le_refl)
   have l2:=rN W (show (cR cs i - jC cs q i) * (cs.sum:Rat)<=jC cs ((cs.sum:Rat) - q) i * (cs.sum:Rat) by rw [e];exact Rat.le_refl)
   grind
 | half=>
  have ow:=dO cs
  obtain ⟨t,⟨c,tl,e⟩ | ⟨c,tl,e⟩⟩:=a
  ·obtain ⟨t',⟨c',tl',e'⟩ | ⟨c',tl',e'⟩⟩:=b
   ·have f1:=zCN ow hc tl (by grind) hi
    have f2:=zCN ow hc tl' (by grind) hi
    rw [e i hi,e' i hi,f1,f2,mE]
    grind
   ·have f1:=kO ow tl' tl (by grind) hi
    rw [e i hi,e' i hi,f1]
  ·obtain ⟨t',⟨c',tl',e'⟩ | ⟨c',tl',e'⟩⟩:=b
   ·have f1:=kO ow tl' tl rfl hi
    rw [e i hi,e' i hi,f1]
    grind
   ·exfalso;grind
theorem zGy {w:Wy} {ws cs:List Int} (h:w.due ws cs):w.con.due ws cs:=by cases w<;>exact h
def Lin (f:Rat->Rat) (a b:Rat):Prop:=∀ x,a<=x->x<=b->(f x - f a) * (b - a)=(x - a) * (f b - f a)
def Cn (R:Rat->Rat->Prop):List Rat->Prop
 | a::b::l=>R a b/\Cn R (b::l)
 | _=>True
theorem Cn.imp {R R':Rat->Rat->Prop} (h:∀ a b,R a b->R' a b):∀ {l:List Rat},Cn R l->Cn R' l
 | [],_=>trivial
 | [_],_=>trivial
 | a::b::l,k=>⟨h a b k.1,Cn.imp h k.2⟩
theorem rT {A:List Rat}:∀ {l:List Rat},l.Pairwise (·<=·)->(∀ x∈A,x∈l∨∀ y∈l,x<=y)->Cn (fun s t=>s<=t/\∀ x∈A,x<=s∨t<=x) l
 | [],_,_=>trivial
 | [_],_,_=>trivial
 | a::b::r,h,hA=>by
  obtain ⟨h1,h2⟩:=List.pairwise_cons.mp h
  obtain ⟨h3,h4⟩:=List.pairwise_cons.mp h2
  refine ⟨⟨h1 b List.mem_cons_self,fun x hx=>?_⟩,rT h2 fun x hx=>?_⟩
  ·rcases hA x hx with h | h
   ·rcases List.mem_cons.mp h with rfl | h
    ·exact .inl Rat.le_refl
    ·rcases List.mem_cons.mp h with rfl | h
     ·exact .inr Rat.le_refl
     ·exact .inr (h3 x h)
   ·exact .inl (h a List.mem_cons_self)
  ·rcases hA x hx with h | h
   ·rcases List.mem_cons.mp h with rfl | h
    ·exact .inr h1
    ·exact .inl h
   ·exact .inr fun y hy=>h y (List.mem_cons_of_mem _ hy)
def QQ (ws cs:List Int) (t:Rat):Rat:=gE (gets (cR cs) (cR ws) t) (List.range cs.length)
def lv (ws cs:List Int) (i:Nat):Rat:=cR cs i / cR ws i
theorem Wt.pos {ws cs:List Int} (h:Wt ws cs) {i:Nat} (hi:i < cs.length):0 < cR ws i:=by
 have:=(h.at hi).1
 unfold cR
 exact_mod_cast (show 0 < ws.getD i 0 by omega)
theorem zAY {ws cs:List Int} (h:Wt ws cs) {i:Nat} (hi:i < cs.length):cR ws i * lv ws cs i=cR cs i:=by
 have:=h.pos hi
 unfold lv
 grind
theorem zFs {ws cs:List Int} (h:Wt ws cs) {i:Nat} (hi:i < cs.length) {t:Rat} (l:lv ws cs i<=t):gets (cR cs) (cR ws) t i=cR cs i:=by
 have p:=h.pos hi
 have e:=zAY h hi
 have:=Rat.mul_le_mul_of_nonneg_left l (Rat.le_of_lt p)
 unfold gets mn
 grind
theorem zEM {ws cs:List Int} (h:Wt ws cs) {i:Nat} (hi:i < cs.length) {t:Rat} (l:t<=lv ws cs i):gets (cR cs) (cR ws) t i=cR ws i * t:=by
 have p:=h.pos hi
 have e:=zAY h hi
 have:=Rat.mul_le_mul_of_nonneg_left l (Rat.le_of_lt p)
 unfold gets mn
 grind
theorem zEQ {ws cs:List Int} (h:Wt ws cs) (hc:Cl cs) {i:Nat} (hi:i < cs.length):0<=lv ws cs i:=by
 have p:=h.pos hi
 have c:=(zIy hc hi).1
 have e:=zAY h hi
 rcases Rat.le_total (a:=0) (b:=lv ws cs i) with z | z
 ·exact z
 ·have:=Rat.mul_le_mul_of_nonneg_left z (Rat.le_of_lt p)
  have z2:cR cs i=0:=by grind
  unfold lv
  rw [z2]
  grind
def sl (ws cs:List Int) (s:Rat) (i:Nat):Rat:=if lv ws cs i<=s then 0 else cR ws i
theorem zDl {f g:Nat->Rat}:∀ {l:List Nat},gE (fun i=>f i - g i) l=gE f l - gE g l
 | []=>by rw [gO,gO,gO];grind
 | a::l=>by rw [aW,aW,aW,zDl];grind
def zLy (ws cs:List Int) (s t:Rat):Prop:=∀ i,i < cs.length->lv ws cs i<=s∨t<=lv ws cs i
theorem wR {ws cs:List Int} (h:Wt ws cs) {s t u:Rat} (n:zLy ws cs s t) (su:s<=u) (ut:u<=t) {i:Nat} (hi:i < cs.length):gets (cR cs) (cR ws) u i - gets (cR cs) (cR ws) s i=sl ws cs s i * (u - s):=by
 unfold sl
 by_cases z:lv ws cs i<=s
 ·rw [zFs h hi z,zFs h hi (Rat.le_trans z su),if_pos z];grind
 ·rcases n i hi with k | k
  ·exact absurd k z
  ·rw [zEM h hi (Rat.le_trans ut k),zEM h hi (Rat.le_trans su (Rat.le_trans ut k)),if_neg z];grind
theorem zAj {ws cs:List Int} (h:Wt ws cs) {s t u:Rat} (n:zLy ws cs s t) (su:s<=u) (ut:u<=t):QQ ws cs u - QQ ws cs s=gE (sl ws cs s) (List.range cs.length) * (u - s):=by
 unfold QQ
 rw [<-zDl,dM (g:=fun i=>sl ws cs s i * (u - s)) fun i hi=>wR h n su ut (List.mem_range.mp hi)]
 rw [cZ]
 grind
theorem mU {ws cs:List Int} (h:Wt ws cs) {s t:Rat} (l:s<=t):QQ ws cs s<=QQ ws cs t:=mZ fun i hi=>lG (h.pos (List.mem_range.mp hi)) l
theorem zOz {ws cs:List Int} (h:Wt ws cs) {s t:Rat} (e:QQ ws cs s=QQ ws cs t) {i:Nat} (hi:i < cs.length):gets (cR cs) (cR ws) s i=gets (cR cs) (cR ws) t i:=yC (fun i hi=>h.pos (List.mem_range.mp hi)) e i (List.mem_range.mpr hi)
theorem zMS {ws cs:List Int} (h:Wt ws cs) {s t:Rat} (st:s<=t) (n:zLy ws cs s t) {i:Nat} (hi:i < cs.length) {f:Rat->Rat} (hf:∀ x,QQ ws cs s<=x->x<=QQ ws cs t->∃ u,QQ ws cs u=x/\f x=gets (cR cs) (cR ws) u i):Lin f (QQ ws cs s) (QQ ws cs t):=by
 have ab:=mU h st
 have at':∀ v,s<=v->v<=t->f (QQ ws cs v)=gets (cR cs) (cR ws) v i:=fun v h1 h2=>by
  obtain ⟨u,e1,e2⟩:=hf _ (mU h h1) (mU h h2)
  rw [e2,zOz h e1 hi]
 have fa:=at' s Rat.le_refl st
 have fb:=at' t st Rat.le_refl
 intro x h1 h2
 obtain ⟨u,e1,e2⟩:=hf x h1 h2
 rcases Rat.le_total (a:=u) (b:=s) with z | z
 ·have q:=mU h z
  have ex:x=QQ ws cs s:=by grind
  subst ex
  grind
 rcases Rat.le_total (a:=t) (b:=u) with z' | z'
 ·have q:=mU h z'
  have ex:x=QQ ws cs t:=by grind
  subst ex
  grind
 have d1:=zAj h n z z'
 have d2:=zAj h n st Rat.le_refl
 have g1:=wR h n z z' hi
 have g2:=wR h n st Rat.le_refl hi
 rw [e1] at d1
 rw [e2,fa,fb,g1,g2,d1,d2]
 grind
theorem zFP {ws cs:List Int} (h:Wt ws cs) {q:Rat}:∀ {l:List Rat} {s:Rat},Cn (fun s t=>s<=t/\zLy ws cs s t) (s::l)->QQ ws cs s<=q->q<=QQ ws cs ((s::l).getLast (by simp))->∃ u,s<=u/\QQ ws cs u=q
 | [],s,_,h1,h2=>⟨s,Rat.le_refl,by
  have h2':q<=QQ ws cs s:=h2
  grind⟩
 | t::l,s,hc,h1,h2=>by
  obtain ⟨⟨st,n⟩,hc'⟩:=hc
  rcases Rat.le_total (a:=QQ ws cs t) (b:=q) with z | z
  ·obtain ⟨u,u1,u2⟩:=zFP h hc' z (by simpa using h2)
   exact ⟨u,Rat.le_trans st u1,u2⟩
  ·by_cases e:QQ ws cs s=QQ ws cs t
   ·exact ⟨s,Rat.le_refl,by grind⟩
   have d2:=zAj h n st Rat.le_refl
   generalize gE (sl ws cs s) (List.range cs.length)=W at d2
   have lt:QQ ws cs s < QQ ws cs t:=by have:=mU h st;grind
   have p:0 < QQ ws cs t - QQ ws cs s:=by grind
   have nz:QQ ws cs t - QQ ws cs s≠0:=by grind
   have lam:0<=(q - QQ ws cs s) / (QQ ws cs t - QQ ws cs s)/\(q - QQ ws cs s) / (QQ ws cs t - QQ ws cs s)<=1:=by
    refine ⟨rN p ?_,rN p ?_⟩
    ·rw [Rat.div_mul_cancel nz];grind
    ·rw [Rat.div_mul_cancel nz];grind
   have le:(q - QQ ws cs s) / (QQ ws cs t - QQ ws cs s) * (QQ ws cs t - QQ ws cs s)=q - QQ ws cs s:=Rat.div_mul_cancel nz
   generalize (q - QQ ws cs s) / (QQ ws cs t - QQ ws cs s)=k at lam le
   have ts:0<=t - s:=by grind
   have m1:=Rat.mul_nonneg lam.1 ts
   have m2:=Rat.mul_le_mul_of_nonneg_right lam.2 ts
   refine ⟨s+k * (t - s),by grind,?_⟩
   have d1:=zAj h n (u:=s+k * (t - s)) (by grind) (by grind)
   have d2':=zAj h n st Rat.le_refl
   grind
theorem zJc:∀ (n:Nat) (g:Nat->Rat),∃ M,∀ i,i < n->Sz M (g i)
 | 0,_=>⟨0,fun i h=>by omega⟩
 | n+1,g=>by
  obtain ⟨M,h⟩:=zJc n g
  refine ⟨M+((g n).num.natAbs+(g n).den),fun i hi=>?_⟩
  by_cases z:i=n
  ·rw [z];exact (zMU (g n)).mono (by omega)
  ·exact (h i (by omega)).mono (by omega)
theorem zOD {ws cs:List Int} (h:Wt ws cs) (hc:Cl cs) {q:Rat} (q0:0<=q) (q1:q<=(cs.sum:Rat)):∃ u,0<=u/\QQ ws cs u=q:=by
 generalize hA:(List.range cs.length).map (lv ws cs)=A
 have pm:(A.mergeSort fun a b=>decide (a<=b)).Perm A:=List.mergeSort_perm A _
 have so:(A.mergeSort fun a b=>decide (a<=b)).Pairwise (·<=·):=by
  have:=List.pairwise_mergeSort (le:=fun a b:Rat=>decide (a<=b)) (fun a b c h1 h2=>by
   have h1':=of_decide_eq_true h1
   have h2':=of_decide_eq_true h2
   exact decide_eq_true (Rat.le_trans h1' h2')) (fun a b=>by
   rcases Rat.le_total (a:=a) (b:=b) with z | z
   ·simp [z]
   ·simp [z]) A
  exact this.imp fun h=>of_decide_eq_true h
 generalize A.mergeSort (fun a b=>decide (a<=b))=L at pm so
 have nn:∀ x∈L,0<=x:=fun x hx=>by
  have hx':=pm.mem_iff.mp hx
  rw [<-hA] at hx'
  obtain ⟨i,hi,rfl⟩:=List.mem_map.mp hx'
  exact zEQ h hc (List.mem_range.mp hi)
 have so':(0::L).Pairwise (·<=·):=List.pairwise_cons.mpr ⟨nn,so⟩
 have cn:=rT (A:=A) so' fun x hx=>.inl (List.mem_cons_of_mem _ (pm.mem_iff.mpr hx))
 have cn':Cn (fun s t=>s<=t/\zLy ws cs s t) (0::L):=cn.imp fun a b hab=>⟨hab.1,fun i hi=>hab.2 _ (by rw [<-hA];exact List.mem_map.mpr ⟨i,List.mem_range.mpr hi,rfl⟩)⟩
 have z0:QQ ws cs 0=0:=by
  unfold QQ
  rw [dM (g:=fun i=>cR ws i * 0) fun i hi=>zEM h (List.mem_range.mp hi) (zEQ h hc (List.mem_range.mp hi)),cZ]
  grind
 have zl:QQ ws cs ((0::L).getLast (by simp))=(cs.sum:Rat):=by
  unfold QQ
  rw [dM (g:=cR cs) fun i hi=>zFs h (List.mem_range.mp hi) ?_]
  ·exact oO cs
  ·have m:lv ws cs i∈L:=pm.mem_iff.mpr (by rw [<-hA];exact List.mem_map.mpr ⟨i,hi,rfl⟩)
   have key:∀ {l:List Rat} (ne:l≠[]),l.Pairwise (·<=·)->∀ x∈l,x<=l.getLast ne:=by
    intro l
    induction l with
    | nil=>intro ne;exact absurd rfl ne
    | cons a r ih=>
     intro ne hp x hx
     obtain ⟨p1,p2⟩:=List.pairwise_cons.mp hp
     cases r with
     | nil=>rw [List.mem_singleton.mp hx];exact Rat.le_refl
     | cons b r=>
      rw [List.getLast_cons (by simp)]
      rcases List.mem_cons.mp hx with rfl | hx
      ·exact Rat.le_trans (p1 b List.mem_cons_self) (ih (by simp) p2 b List.mem_cons_self)
      ·exact ih (by simp) p2 x hx
   exact key (by simp) so' _ (List.mem_cons_of_mem _ m)
 exact zFP h cn' (by rw [z0];exact q0) (by rw [zl];exact q1)
theorem zDz {ws cs:List Int} (h:Wt ws cs) (hc:Cl cs) {q:Rat} (q0:0<=q) (q1:q<=(cs.sum:Rat)):∃ M t,Lvl M ws cs q t:=by
 obtain ⟨u,u0,e⟩:=zOD h hc q0 q1
 obtain ⟨M,hM⟩:=zJc cs.length (gets (cR cs) (cR ws) u)
 exact ⟨M,u,u0,e,hM⟩
theorem zMZ {w:Wy} {ws cs:List Int} (hw:w.due ws cs) (hc:Cl cs) {q:Rat} (q0:0<=q) (q1:q<=(cs.sum:Rat)):∃ f M,Al M ws cs q f w:=by
 cases w with
 | row=>exact ⟨_,0,fun i _=>rfl⟩
 | back=>exact ⟨_,0,fun i _=>rfl⟩
 | part=>exact ⟨_,0,fun i _=>rfl⟩
 | even=>
  obtain ⟨M,t,tl⟩:=zDz hw hc q0 q1
  exact ⟨_,M,t,tl,fun i _=>rfl⟩
 | lack=>
  obtain ⟨M,t,tl⟩:=zDz hw hc (q:=(cs.sum:Rat) - q) (by grind) (by grind)
  exact ⟨_,M,t,tl,fun i _=>rfl⟩
 | half=>
  by_cases z:(cs.sum:Rat) < q+q
  ·obtain ⟨M,t,tl⟩:=zDz (dO cs) hc (q:=((cs.sum:Rat) - q)+((cs.sum:Rat) - q)) (by grind) (by grind)
   exact ⟨_,M,t,.inr ⟨z,tl,fun i _=>rfl⟩⟩
  ·have z':=Rat.not_lt.mp z
   obtain ⟨M,t,tl⟩:=zDz (dO cs) hc (q:=q+q) (by grind) z'
   exact ⟨_,M,t,.inl ⟨z',tl,fun i _=>rfl⟩⟩
open Classical in
def FF (w:Wy) (ws cs:List Int) (q:Rat):Nat->Rat:=if h:∃ f M,Al M ws cs q f w then Classical.choose h else fun _=>0
theorem zAd {w:Wy} {ws cs:List Int} (hw:w.due ws cs) (hc:Cl cs) {q:Rat} (q0:0<=q) (q1:q<=(cs.sum:Rat)):∃ M,Al M ws cs q (FF w ws cs q) w:=by
 unfold FF
 rw [dif_pos (zMZ hw hc q0 q1)]
 exact Classical.choose_spec (zMZ hw hc q0 q1)
theorem zFb {M:Nat} {w:Wy} {ws cs:List Int} (hw:w.due ws cs) (hc:Cl cs) {q:Rat} {f:Nat->Rat} (q0:0<=q) (q1:q<=(cs.sum:Rat)) (a:Al M ws cs q f w) {i:Nat} (hi:i < cs.length):f i=FF w ws cs q i:=by
 obtain ⟨M',b⟩:=zAd hw hc q0 q1
 exact zNI hw a b hi
theorem zMI {w:Wy} {ws cs:List Int} (hw:w.due ws cs) (hc:Cl cs) {q:Rat} (q0:0<=q) (q1:q<=(cs.sum:Rat)):(∀ i,i < cs.length->0<=FF w ws cs q i/\FF w ws cs q i<=cR cs i)/\((List.range cs.length).map (FF w ws cs q)).sum=q:=by
 obtain ⟨M,b⟩:=zAd hw hc q0 q1
 exact zOf hw hc q0 q1 b
theorem zKS {w:Wy} {ws cs:List Int} (hw:w.due ws cs) (hc:Cl cs) {q q':Rat} (q0:0<=q) (l:q<=q') (q1:q'<=(cs.sum:Rat)) {i:Nat} (hi:i < cs.length):FF w ws cs q i<=FF w ws cs q' i:=by
 obtain ⟨M,a⟩:=zAd hw hc q0 (Rat.le_trans l q1)
 obtain ⟨M',b⟩:=zAd hw hc (Rat.le_trans q0 l) q1
 exact zLb hw hc a b l hi
theorem zEC {w:Wy} {ws cs:List Int} (hw:w.due ws cs) (hc:Cl cs) {q:Rat} (q0:0<=q) (q1:q<=(cs.sum:Rat)) {i:Nat} (hi:i < cs.length):FF w.con ws cs ((cs.sum:Rat) - q) i=cR cs i - FF w ws cs q i:=by
 obtain ⟨M,a⟩:=zAd hw hc q0 q1
 obtain ⟨M',b⟩:=zAd (zGy hw) hc (q:=(cs.sum:Rat) - q) (by grind) (by grind)
 exact zNu hw hc q0 q1 a b hi
theorem zAI {f:Nat->Rat}:∀ {l:List Nat},(∀ i∈l,0<=f i)->gE f l=0->∀ i∈l,f i=0
 | [],_,_,i,h=>by cases h
 | a::l,hn,e,i,h=>by
  have p:0<=gE f l:=by
   have:∀ {l:List Nat},(∀ i∈l,0<=f i)->0<=gE f l:=by
    intro l
    induction l with
    | nil=>intro _;rw [gO];exact Rat.le_refl
    | cons b l ih=>intro hl;rw [aW];have:=hl b List.mem_cons_self;have:=ih fun x hx=>hl x (List.mem_cons_of_mem _ hx);grind
   exact this fun x hx=>hn x (List.mem_cons_of_mem _ hx)
  have a0:=hn a List.mem_cons_self
  rw [aW] at e
  rcases List.mem_cons.mp h with rfl | h
  ·grind
  ·exact zAI (fun x hx=>hn x (List.mem_cons_of_mem _ hx)) (by grind) i h
theorem zFw {w:Wy} {ws cs:List Int} (hw:w.due ws cs) (hc:Cl cs) {i:Nat} (hi:i < cs.length):FF w ws cs 0 i=0:=by
 have s0:(0:Rat)<=(cs.sum:Rat):=by exact_mod_cast hc.sum.1
 obtain ⟨b,s⟩:=zMI hw hc Rat.le_refl s0
 exact zAI (fun i hi=>(b i (List.mem_range.mp hi)).1) s i (List.mem_range.mpr hi)
theorem zFo {w:Wy} {ws cs:List Int} (hw:w.due ws cs) (hc:Cl cs) {i:Nat} (hi:i < cs.length):FF w ws cs (cs.sum:Rat) i=cR cs i:=by
 have s0:(0:Rat)<=(cs.sum:Rat):=by exact_mod_cast hc.sum.1
 obtain ⟨b,s⟩:=zMI hw hc s0 Rat.le_refl
 have e:=pC (f:=FF w ws cs (cs.sum:Rat)) (g:=cR cs) (l:=List.range cs.length) (fun i hi=>(b i (List.mem_range.mp hi)).2) (by
  show ((List.range cs.length).map _).sum=_
  rw [s]
  exact (oO cs).symm)
 exact e i (List.mem_range.mpr hi)
theorem zBV:∀ {cs:List Int} {i j:Nat},(∀ c∈cs,0<=c)->i < j->j<=cs.length->(cs.take i).sum+cs.getD i 0<=(cs.take j).sum/\0<=(cs.take i).sum
 | [],i,j,_,h,h'=>by simp at h';omega
 | c::r,i,0,_,h,_=>by omega
 | c::r,0,j+1,hn,_,_=>by
  have hr:∀ l:List Int,(∀ c∈l,0<=c)->0<=l.sum:=by
   intro l
   induction l with
   | nil=>intro _;decide
   | cons a l ih=>intro hl;rw [List.sum_cons];have:=hl a List.mem_cons_self;have:=ih fun x hx=>hl x (List.mem_cons_of_mem _ hx);omega
  have:=hr (r.take j) fun x hx=>hn x (List.mem_cons_of_mem _ (List.mem_of_mem_take hx))
  rw [List.take_succ_cons,List.sum_cons]
  simp
  omega
 | c::r,i+1,j+1,hn,h,h'=>by
  have ih:=zBV (cs:=r) (i:=i) (j:=j) (fun x hx=>hn x (List.mem_cons_of_mem _ hx)) (by omega) (by simpa using h')
  have:=hn c List.mem_cons_self
  rw [List.take_succ_cons,List.sum_cons,List.take_succ_cons,List.sum_cons]
  show c+_+r.getD i 0<=_/\_
  omega
def Jt (w:Wy) (ws cs:List Int) (a b:Rat):Prop:=0<=a/\a<=b/\b<=(cs.sum:Rat)/\∀ i,i < cs.length->Lin (fun x=>FF w ws cs x i) a b
theorem Lin.const {f:Rat->Rat} {a b k:Rat} (hab:a<=b) (h:∀ x,a<=x->x<=b->f x=k):Lin f a b:=fun x h1 h2=>by
 rw [h x h1 h2,h a Rat.le_refl hab,h b hab Rat.le_refl]
 grind
theorem Lin.line {f:Rat->Rat} {a b m k:Rat} (hab:a<=b) (h:∀ x,a<=x->x<=b->f x=m * x+k):Lin f a b:=fun x h1 h2=>by
 rw [h x h1 h2,h a Rat.le_refl hab,h b hab Rat.le_refl]
 grind
def rj:List Int->Int->List Rat
 | [],a=>[(a:Rat)]
 | c::r,a=>(a:Rat)::rj r (a+c)
theorem zCp (r:List Int) (a:Int):∃ t,rj r a=(a:Rat)::t:=by cases r<;>exact ⟨_,rfl⟩
theorem zGQ {cs:List Int} (hc:Cl cs):∀ (post pre:List Int),cs=pre++post->Cn (Jt .row [] cs) (rj post pre.sum)
 | [],_,_=>trivial
 | c::r,pre,e=>by
  have ih:=zGQ hc r (pre++[c]) (by rw [e];simp)
  rw [List.sum_append,show ([c]:List Int).sum=c by simp] at ih
  obtain ⟨t,et⟩:=zCp r (pre.sum+c)
  rw [rj,et]
  rw [et] at ih
  refine ⟨?_,ih⟩
  have hk:pre.length < cs.length:=by rw [e];simp
  have tk:cs.take pre.length=pre:=by rw [e];exact List.take_left
  have ck:cs.getD pre.length 0=c:=by rw [e,List.getD_eq_getElem?_getD,List.getElem?_append_right (Nat.le_refl _)];simp
  have c0:0<=c:=hc.nn c (by rw [e];simp)
  have p0:0<=pre.sum:=by
   have:∀ l:List Int,(∀ c∈l,0<=c)->0<=l.sum:=by
    intro l
    induction l with
    | nil=>intro _;decide
    | cons a l ih=>intro hl;rw [List.sum_cons];have:=hl a List.mem_cons_self;have:=ih fun x hx=>hl x (List.mem_cons_of_mem _ hx);omega
   exact this pre fun x hx=>hc.nn x (by rw [e];exact List.mem_append_left _ hx)
  have r0:0<=r.sum:=by
   have:∀ l:List Int,(∀ c∈l,0<=c)->0<=l.sum:=by
    intro l
    induction l with
    | nil=>intro _;decide
    | cons a l ih=>intro hl;rw [List.sum_cons];have:=hl a List.mem_cons_self;have:=ih fun x hx=>hl x (List.mem_cons_of_mem _ hx);omega
   exact this r fun x hx=>hc.nn x (by rw [e];exact List.mem_append_right _ (List.mem_cons_of_mem _ hx))
  have se:cs.sum=pre.sum+c+r.sum:=by rw [e,List.sum_append,List.sum_cons];omega
  have ab:(pre.sum:Rat)<=((pre.sum+c:Int):Rat):=Rat.intCast_le_intCast.mpr (by omega)
  have bS:((pre.sum+c:Int):Rat)<=(cs.sum:Rat):=Rat.intCast_le_intCast.mpr (by omega)
  have a0:(0:Rat)<=(pre.sum:Rat):=by exact_mod_cast p0
  refine ⟨a0,ab,bS,fun i hi=>?_⟩
  have fx:∀ x,(pre.sum:Rat)<=x->x<=((pre.sum+c:Int):Rat)->FF .row [] cs x i=mn (ps0 (x - ((0+(cs.take i).sum:Int):Rat))) (cR cs i):=fun x h1 h2=>by
   rw [<-zFb (M:=0) (w:=.row) (ws:=[]) (f:=zEt cs x) rfl hc (Rat.le_trans a0 h1) (Rat.le_trans h2 bS) (fun i _=>rfl) hi]
   exact zCj cs 0 x i hi
  have ci:=(zIy hc hi).1
  rcases Nat.lt_trichotomy i pre.length with z | z | z
  ·have tu:=(zBV hc.nn z (Nat.le_of_lt hk)).1
   rw [tk] at tu
   refine Lin.const ab (k:=cR cs i) fun x h1 h2=>?_
   rw [fx x h1 h2]
   have tu':((0+(cs.take i).sum:Int):Rat)+cR cs i<=(pre.sum:Rat):=by
    unfold cR
    rw [<-Rat.intCast_add]
    exact Rat.intCast_le_intCast.mpr (by omega)
   unfold mn ps0
   grind
  ·subst z
   refine Lin.line ab (m:=1) (k:=-(pre.sum:Rat)) fun x h1 h2=>?_
   rw [fx x h1 h2,tk,Int.zero_add]
   have:cR cs pre.length=(c:Rat):=by unfold cR;rw [ck]
   rw [this]
   rw [Rat.intCast_add] at h2
   unfold mn ps0
   grind
  ·have tu:=(zBV hc.nn z (Nat.le_of_lt hi)).1
   rw [tk,ck] at tu
   refine Lin.const ab (k:=0) fun x h1 h2=>?_
   rw [fx x h1 h2]
   have tu':((pre.sum+c:Int):Rat)<=((0+(cs.take i).sum:Int):Rat):=Rat.intCast_le_intCast.mpr (by omega)
   unfold mn ps0
   grind
theorem zNx {cs:List Int} (hc:Cl cs):Cn (Jt .row [] cs) (rj cs 0):=zGQ hc cs [] rfl
theorem zJT {cs:List Int} (hc:Cl cs):Cn (Jt .part [] cs) [0,(cs.sum:Rat)]:=by
 have s0:(0:Rat)<=(cs.sum:Rat):=by exact_mod_cast hc.sum.1
 refine ⟨⟨Rat.le_refl,s0,Rat.le_refl,fun i hi=>?_⟩,trivial⟩
 have fx:∀ x,0<=x->x<=(cs.sum:Rat)->FF .part [] cs x i * (cs.sum:Rat)=x * cR cs i:=fun x h1 h2=>by
  rw [<-zFb (M:=0) (w:=.part) (ws:=[]) (f:=jC cs x) rfl hc h1 h2 (fun i _=>rfl) hi]
  exact (kW hc hi).1
 intro x h1 h2
 have e0:=zFw (w:=.part) (ws:=[]) rfl hc hi
 have e1:=fx x h1 h2
 have e2:=zFo (w:=.part) (ws:=[]) rfl hc hi
 show (FF .part [] cs x i - FF .part [] cs 0 i) * _=_ * (FF .part [] cs (cs.sum:Rat) i - FF .part [] cs 0 i)
 rw [e0,e2]
 generalize FF Wy.part [] cs x i=y at *
 generalize (cs.sum:Rat)=S at *
 generalize cR cs i=c at *
 grind
theorem zGs {R R':Rat->Rat->Prop} {g:Rat->Rat} (h:∀ a b,R a b->R' (g a) (g b)):∀ {l:List Rat},Cn R l->Cn R' (l.map g)
 | [],_=>trivial
 | [_],_=>trivial
 | a::b::l,k=>⟨h a b k.1,zGs h k.2⟩
theorem zGl {R:Rat->Rat->Prop}:∀ {l l':List Rat},Cn R l->Cn R l'->(∀ x y,l.getLast?=some x->l'.head?=some y->R x y)->Cn R (l++l')
 | [],_,_,h,_=>h
 | [a],[],_,_,_=>trivial
 | [a],b::l',_,h,k=>⟨k a b rfl rfl,h⟩
 | a::b::l,l',h,h',k=>⟨h.1,zGl h.2 h' fun x y hx hy=>k x y (by simpa using hx) hy⟩
theorem zFr {R R':Rat->Rat->Prop} {g:Rat->Rat} (h:∀ a b,R a b->R' (g b) (g a)):∀ {l:List Rat},Cn R l->Cn R' (l.reverse.map g)
 | [],_=>trivial
 | [_],_=>trivial
 | a::b::l,k=>by
  have ih:=zFr (l:=b::l) h k.2
  rw [List.reverse_cons,List.map_append]
  refine zGl ih trivial fun x y hx hy=>?_
  rw [List.getLast?_map,List.getLast?_reverse] at hx
  cases hx
  cases hy
  exact h a b k.1
theorem Lin.mir {f g:Rat->Rat} {a b S c:Rat} (hab:a<=b) (h:Lin f a b) (hg:∀ x,a<=x->x<=b->g (S - x)=c - f x):Lin g (S - b) (S - a):=fun x h1 h2=>by
 have k:=h (S - x) (by grind) (by grind)
 have e:=hg (S - x) (by grind) (by grind)
 rw [show S - (S - x)=x by grind] at e
 rw [e,hg a Rat.le_refl hab,hg b hab Rat.le_refl]
 grind
theorem zJB {w:Wy} {ws cs:List Int} (hw:w.due ws cs) (hc:Cl cs) {a b:Rat} (h:Jt w ws cs a b):Jt w.con ws cs ((cs.sum:Rat) - b) ((cs.sum:Rat) - a):=by
 obtain ⟨h1,h2,h3,h4⟩:=h
 refine ⟨by grind,by grind,by grind,fun i hi=>?_⟩
 exact Lin.mir h2 (h4 i hi) (c:=cR cs i) fun x x1 x2=>zEC hw hc (Rat.le_trans h1 x1) (Rat.le_trans x2 h3) hi
theorem zOk {ws cs:List Int} (h:Wt ws cs) (hc:Cl cs) {s t:Rat} (s0:0<=s) (st:s<=t) (n:zLy ws cs s t):Jt .even ws cs (QQ ws cs s) (QQ ws cs t):=by
 have g0:∀ i,i < cs.length->∀ t,0<=t->0<=gets (cR cs) (cR ws) t i/\gets (cR cs) (cR ws) t i<=cR cs i:=fun i hi t t0=>jJ h hc t0 hi
 have q0:0<=QQ ws cs s:=by
  have:gE (fun i=>cR ws i * 0) (List.range cs.length)<=QQ ws cs s:=mZ fun i hi=>by
   have:=(g0 i (List.mem_range.mp hi) s s0).1
   grind
  rw [cZ] at this
  grind
 have q1:QQ ws cs t<=(cs.sum:Rat):=by
  have:QQ ws cs t<=gE (cR cs) (List.range cs.length):=mZ fun i hi=>(g0 i (List.mem_range.mp hi) t (Rat.le_trans s0 st)).2
  have e:gE (cR cs) (List.range cs.length)=(cs.sum:Rat):=oO cs
  rw [e] at this
  exact this
 refine ⟨q0,mU h st,q1,fun i hi=>zMS h st n hi fun x x1 x2=>?_⟩
 obtain ⟨M,u,tl,e⟩:=zAd (w:=.even) h hc (Rat.le_trans q0 x1) (Rat.le_trans x2 q1)
 exact ⟨u,tl.sum,e i hi⟩
theorem zKq {ws cs:List Int} (h:Wt ws cs) (hc:Cl cs) {ls:List Rat} (so:ls.Pairwise (·<=·)) (hm:∀ i,i < cs.length->lv ws cs i∈ls) (h0:∀ x∈ls,0<=x):Cn (Jt .even ws cs) ((0::ls).map (QQ ws cs)):=by
 have so':(0::ls).Pairwise (·<=·):=List.pairwise_cons.mpr ⟨h0,so⟩
 have cn:=rT (A:=0::ls) so' fun x hx=>.inl hx
 have pos:∀ {l:List Rat},(∀ x∈l,0<=x)->Cn (fun s t=>s<=t/\∀ x∈0::ls,x<=s∨t<=x) l->Cn (fun s t=>0<=s/\s<=t/\∀ x∈0::ls,x<=s∨t<=x) l:=by
  intro l
  induction l with
  | nil=>intro _ _;trivial
  | cons a r ih=>
   intro hp k
   cases r with
   | nil=>trivial
   | cons b r=>exact ⟨⟨hp a List.mem_cons_self,k.1⟩,ih (fun x hx=>hp x (List.mem_cons_of_mem _ hx)) k.2⟩
 refine zGs (fun a b hab=>?_) (pos (fun x hx=>?_) cn)
 ·exact zOk h hc hab.1 hab.2.1 fun i hi=>hab.2.2 _ (List.mem_cons_of_mem _ (hm i hi))
 ·rcases List.mem_cons.mp hx with rfl | hx
  ·exact Rat.le_refl
  ·exact h0 x hx
theorem zGB {cs:List Int} (hc:Cl cs) {q:Rat} (q0:0<=q) (q1:q+q<=(cs.sum:Rat)) {i:Nat} (hi:i < cs.length):FF .half [] cs q i=FF .even (ones cs) cs (q+q) i * hf:=by
 have s0:(0:Rat)<=(cs.sum:Rat):=by exact_mod_cast hc.sum.1
 obtain ⟨M,t,tl,e⟩:=zAd (w:=.even) (ws:=ones cs) (dO cs) hc (q:=q+q) (by grind) q1
 rw [<-zFb (M:=M) (w:=.half) (ws:=[]) (f:=fun i=>gets (cR cs) (cR (ones cs)) t i * hf) rfl hc q0 (by grind) ⟨t,.inl ⟨q1,tl,fun i _=>rfl⟩⟩ hi,e i hi]
theorem zJI {cs:List Int} (hc:Cl cs) {a b:Rat} (h:Jt .even (ones cs) cs a b):Jt .half [] cs (a * hf) (b * hf):=by
 obtain ⟨h1,h2,h3,h4⟩:=h
 have tw:∀ x:Rat,x * hf+x * hf=x:=fun x=>by rw [mE];grind
 have ta:=tw a
 have tb:=tw b
 have p:(0:Rat) < hf:=by rw [mE];grind
 have l1:=Rat.mul_le_mul_of_nonneg_right h1 (Rat.le_of_lt p)
 have l2:=Rat.mul_le_mul_of_nonneg_right h2 (Rat.le_of_lt p)
 refine ⟨by grind,l2,by grind,fun i hi x x1 x2=>?_⟩
 have fx:∀ y,a * hf<=y->y<=b * hf->FF .half [] cs y i=FF .even (ones cs) cs (y+y) i * hf:=fun y y1 y2=>zGB hc (by grind) (by grind) hi
 show (FF .half [] cs x i - FF .half [] cs (a * hf) i) * _=_ * (FF .half [] cs (b * hf) i - FF .half [] cs (a * hf) i)
 rw [fx x x1 x2,fx (a * hf) Rat.le_refl l2,fx (b * hf) l2 Rat.le_refl,ta,tb]
 have k:=h4 i hi (x+x) (by grind) (by grind)
 have k':(FF .even (ones cs) cs (x+x) i - FF .even (ones cs) cs a i) * (b - a)=(x+x - a) * (FF .even (ones cs) cs b i - FF .even (ones cs) cs a i):=k
 rw [show b * hf - a * hf=(b - a) * hf by grind]
 have hh:hf * (1+1)=1:=by rw [mE];grind
 generalize FF Wy.even (ones cs) cs (x+x) i=u at *
 generalize FF Wy.even (ones cs) cs a i=v at *
 generalize FF Wy.even (ones cs) cs b i=z at *
 generalize hf=H at *
 grind
structure JL (w:Wy) (ws cs:List Int) (l:List Rat):Prop where
 cn:Cn (Jt w ws cs) l
 hd:l.head?=some 0
 la:l.getLast?=some (cs.sum:Rat)
def ddR:Rat->List Rat->List Rat
 | _,[]=>[]
 | k,x::l=>if k < x then x::ddR x l else ddR k l
theorem zLh {w:Wy} {ws cs:List Int}:∀ {l:List Rat} {k:Rat},Cn (Jt w ws cs) (k::l)->Cn (fun a b=>a < b/\Jt w ws cs a b) (k::ddR k l)/\(k::ddR k l).getLast?=(k::l).getLast?
 | [],k,_=>⟨trivial,rfl⟩
 | x::l,k,h=>by
  rw [ddR]
  by_cases z:k < x
  ·rw [if_pos z]
   obtain ⟨i1,i2⟩:=zLh h.2
   refine ⟨⟨⟨z,h.1⟩,i1⟩,?_⟩
   rw [List.getLast?_cons_cons,List.getLast?_cons_cons]
   exact i2
  ·rw [if_neg z]
   have e:k=x:=by have:=h.1.2.1;grind
   subst e
   obtain ⟨i1,i2⟩:=zLh h.2
   refine ⟨i1,?_⟩
   rw [i2,List.getLast?_cons_cons]
theorem zCQ:∀ (l:List Rat) (k:Rat),(ddR k l).Sublist l
 | [],_=>List.Sublist.refl _
 | x::l,k=>by
  rw [ddR]
  split
  ·exact (zCQ l x).cons₂ x
  ·exact (zCQ l k).cons x
structure JS (w:Wy) (ws cs:List Int) (l:List Rat):Prop where
 cn:Cn (fun a b=>a < b/\Jt w ws cs a b) l
 hd:l.head?=some 0
 la:l.getLast?=some (cs.sum:Rat)
theorem JL.js {w:Wy} {ws cs:List Int} {l:List Rat} (h:JL w ws cs (0::l)):JS w ws cs (0::ddR 0 l):=by
 obtain ⟨a,b⟩:=zLh h.cn
 exact ⟨a,rfl,by rw [b];exact h.la⟩
theorem zJY {R:Rat->Rat->Prop}:∀ {l:List Rat},Cn (fun a b=>a < b/\R a b) l->l.Pairwise (· < ·)
 | [],_=>.nil
 | [a],_=>List.pairwise_singleton ..
 | a::b::l,h=>by
  have ih:=zJY h.2
  refine List.pairwise_cons.mpr ⟨fun x hx=>?_,ih⟩
  rcases List.mem_cons.mp hx with rfl | hx
  ·exact h.1.1
  ·have z1:=h.1.1
   have z2:=(List.pairwise_cons.mp ih).1 x hx
   grind
theorem zLG {R:Rat->Rat->Prop}:∀ {l:List Rat} {k:Nat} {a b:Rat},Cn R l->l[k]?=some a->l[k+1]?=some b->R a b
 | x::y::l,0,a,b,h,e1,e2=>by cases e1;cases e2;exact h.1
 | x::y::l,k+1,a,b,h,e1,e2=>zLG (k:=k) h.2 (by simpa using e1) (by simpa using e2)
 | [x],0,a,b,h,e1,e2=>by simp at e2
 | [x],k+1,a,b,h,e1,e2=>by simp at e2
 | [],k,a,b,h,e1,e2=>by simp at e1
def jpt (w:Wy) (ws cs:List Int) (l:List Rat) (i:Nat):List Pt:=l.map fun q=>(q,FF w ws cs q i)
theorem JS.bd {w:Wy} {ws cs:List Int} {l:List Rat} (h:JS w ws cs l):∀ x∈l,0<=x/\x<=(cs.sum:Rat):=by
 have p:=zJY h.cn
 intro x hx
 obtain ⟨hd,la⟩:=(⟨h.hd,h.la⟩:_/\_)
 cases l with
 | nil=>cases hx
 | cons a r=>
  cases hd
  refine ⟨?_,?_⟩
  ·rcases List.mem_cons.mp hx with rfl | hx
   ·exact Rat.le_refl
   ·exact Rat.le_of_lt ((List.pairwise_cons.mp p).1 x hx)
  ·have key:∀ {l:List Rat} {e x:Rat},l.Pairwise (· < ·)->l.getLast?=some e->x∈l->x<=e:=by
    intro l
    induction l with
    | nil=>intro e x _ _ hx;cases hx
    | cons a r ih=>
     intro e x hp he hx
     obtain ⟨p1,p2⟩:=List.pairwise_cons.mp hp
     cases r with
     | nil=>rw [List.mem_singleton.mp hx];cases he;exact Rat.le_refl
     | cons b r=>
      rw [List.getLast?_cons_cons] at he
      rcases List.mem_cons.mp hx with rfl | hx
      ·exact Rat.le_trans (Rat.le_of_lt (p1 b List.mem_cons_self)) (ih p2 he List.mem_cons_self)
      ·exact ih p2 he hx
   exact key p la hx
theorem zCw {w:Wy} {ws cs:List Int} {l:List Rat} (hw:w.due ws cs) (hc:Cl cs) (h:JS w ws cs l) {i:Nat} (hi:i < cs.length):Ok (jpt w ws cs l i)/\(jpt w ws cs l i).getLast?=some ((cs.sum:Rat),cR cs i):=by
 have b:=h.bd
 refine ⟨⟨?_,?_⟩,?_⟩
 ·unfold jpt
  rw [List.head?_map,h.hd]
  show some ((0:Rat),FF w ws cs 0 i)=_
  rw [zFw hw hc hi]
 ·unfold jpt
  rw [List.pairwise_map]
  refine List.Pairwise.imp_of_mem (fun {x y} hx hy hxy=>?_) (zJY h.cn)
  exact ⟨hxy,zKS hw hc (b x hx).1 (Rat.le_of_lt hxy) (b y hy).2 hi⟩
 ·unfold jpt
  rw [List.getLast?_map,h.la]
  show some ((cs.sum:Rat),FF w ws cs (cs.sum:Rat) i)=_
  rw [zFo hw hc hi]
theorem zKV {w:Wy} {ws cs:List Int} {l:List Rat} (hw:w.due ws cs) (hc:Cl cs) (h:JS w ws cs l) {i:Nat} (hi:i < cs.length) {x:Rat} (x0:0<=x) (x1:x<=(cs.sum:Rat)):cT (jpt w ws cs l i) x=FF w ws cs x i:=by
 obtain ⟨ok,la⟩:=zCw hw hc h hi
 have pt:∀ {k:Nat} {p:Pt},(jpt w ws cs l i)[k]?=some p->l[k]?=some p.1/\p.2=FF w ws cs p.1 i:=fun {k p} e=>by
  unfold jpt at e
  rw [List.getElem?_map] at e
  cases hk:l[k]? with
  | none=>rw [hk] at e;cases e
  | some a=>rw [hk] at e;cases e;exact ⟨rfl,rfl⟩
 rcases zFS ok.2 la (fun p hp=>by rw [ok.1] at hp;cases hp;exact x0) x1 with ⟨k,p,e1,e2⟩ | ⟨k,p,q,e1,e2,e3,e4⟩
 ·have v:=fN ok.2 e1
  rw [(pt e1).2,e2] at v
  exact v
 ·rw [kR ok.2 e1 e2 (Rat.le_of_lt e3) (Rat.le_of_lt e4)]
  obtain ⟨a1,a2⟩:=pt e1
  obtain ⟨b1,b2⟩:=pt e2
  obtain ⟨lt,j⟩:=zLG h.cn a1 b1
  have k:=j.2.2.2 i hi x (Rat.le_of_lt e3) (Rat.le_of_lt e4)
  have k':(FF w ws cs x i - FF w ws cs p.1 i) * (q.1 - p.1)=(x - p.1) * (FF w ws cs q.1 i - FF w ws cs p.1 i):=k
  unfold itp
  rw [a2,b2]
  generalize FF w ws cs x i=u at *
  generalize FF w ws cs p.1 i=v at *
  generalize FF w ws cs q.1 i=z at *
  have nz:q.1 - p.1≠0:=by grind
  refine lH nz ?_
  have e:(x - p.1) / (q.1 - p.1) * (q.1 - p.1)=x - p.1:=Rat.div_mul_cancel nz
  generalize (x - p.1) / (q.1 - p.1)=r at *
  grind
def wln (w:Wy) (ws cs:List Int) (l:List Rat) (i:Nat):List Pt:=lS (jpt w ws cs l i)
theorem qH {w:Wy} {ws cs:List Int} {l:List Rat} (hw:w.due ws cs) (hc:Cl cs) (h:JS w ws cs l) {i:Nat} (hi:i < cs.length):zHZ (wln w ws cs l i)/\(wln w ws cs l i).getLast?=some ((cs.sum:Rat),cR cs i)/\(∀ p∈wln w ws cs l i,p.1∈l/\p.2=FF w ws cs p.1 i)/\∀ x,0<=x->x<=(cs.sum:Rat)->cT (wln w ws cs l i) x=FF w ws cs x i:=by
 obtain ⟨ok,la⟩:=zCw hw hc h hi
 unfold wln
 refine ⟨zBO ok,by rw [zBL ok.2];exact la,fun p hp=>?_,fun x x0 x1=>by rw [zDY ok.2];exact zKV hw hc h hi x0 x1⟩
 have m:=(vZ ok.2).subset hp
 unfold jpt at m
 obtain ⟨q,hq,rfl⟩:=List.mem_map.mp m
 exact ⟨hq,rfl⟩
theorem zJZ {w:Wy} {ws cs:List Int} {l l':List Rat} (hw:w.due ws cs) (hc:Cl cs) (h:JS w ws cs l) (h':JS w ws cs l') {i:Nat} (hi:i < cs.length):wln w ws cs l i=wln w ws cs l' i:=by
 obtain ⟨a1,a2,_,a3⟩:=qH hw hc h hi
 obtain ⟨b1,b2,_,b3⟩:=qH hw hc h' hi
 exact zFC a1 b1 a2 b2 rfl fun x x0 x1=>by rw [a3 x x0 x1,b3 x x0 x1]
theorem zKP {w:Wy} {ws cs:List Int} {l l':List Rat} (hw:w.due ws cs) (hc:Cl cs) (h:JS w ws cs l) (h':JS w.con ws cs l') {i:Nat} (hi:i < cs.length):wln w.con ws cs l' i=trn (wln w ws cs l i) ((cs.sum:Rat),cR cs i):=by
 obtain ⟨a1,a2,_,a3⟩:=qH hw hc h hi
 obtain ⟨b1,b2,_,b3⟩:=qH (zGy hw) hc h' hi
 refine zFC b1 (zCR a1 a2) b2 (zIF a1.1.1) rfl fun x x0 x1=>?_
 have x1':x<=(cs.sum:Rat):=x1
 rw [b3 x x0 x1,zKZ a1 a2 x0 x1]
 show _=cR cs i - cT (wln w ws cs l i) ((cs.sum:Rat) - x)
 rw [a3 _ (by grind) (by grind),<-zEC hw hc (q:=(cs.sum:Rat) - x) (by grind) (by grind) hi,show (cs.sum:Rat) - ((cs.sum:Rat) - x)=x by grind]
theorem tI:∀ {l m:List Rat},l.Perm m->l.Pairwise (·<=·)->m.Pairwise (·<=·)->l=m
 | [],m,p,_,_=>(List.nil_perm.mp p).symm
 | a::l,[],p,_,_=>by cases (List.perm_nil.mp p)
 | a::l,b::m,p,h,k=>by
  obtain ⟨h1,h2⟩:=List.pairwise_cons.mp h
  obtain ⟨k1,k2⟩:=List.pairwise_cons.mp k
  have e:a=b:=by
   have x:a<=b:=by
    rcases List.mem_cons.mp (p.mem_iff.mpr List.mem_cons_self) with e | e
    ·rw [e];exact Rat.le_refl
    ·exact h1 b e
   have y:b<=a:=by
    rcases List.mem_cons.mp (p.mem_iff.mp List.mem_cons_self) with e | e
    ·rw [e];exact Rat.le_refl
    ·exact k1 a e
   grind
  subst e
  rw [tI (List.perm_cons a |>.mp p) h2 k2]
theorem zAR {cs:List Int} {cd:D} (sc:Sq cd cs) (hc:Cl cs):eH [cd]=.ok (.f ((rj cs 0).map dq)):=by
 have hi:=hc.hi
 have lp:∀ (r:List Int) (a:Int) (acc:List D) (s:Sl),acc.length+r.length<=1000->∃ a' s',eN (gName 3) lY (r.map D.int) [.val cd,.val (.int a),.own (acc++[dq (a:Rat)]),s]=.ok (.nx [.val cd,a',.own (acc++(rj r a).map dq),s']):=by
  intro r
  induction r with
  | nil=>intro a acc s _;exact ⟨_,s,rfl⟩
  | cons c r ih=>
   intro a acc s hl
   rw [List.length_cons] at hl
   obtain ⟨a',s',e⟩:=ih (a+c) (acc++[dq (a:Rat)]) (.val (.int c)) (by rw [List.length_append];simp;omega)
   refine ⟨a',s',?_⟩
   rw [List.map_cons,fW (ρ1:=[.val cd,.val (.int a),.own (acc++[dq (a:Rat)]),.val (.int c)]) (ρ2:=[.val cd,.val (.int (a+c)),.own (acc++[dq (a:Rat)]++[dq ((a+c:Int):Rat)]),.val (.int c)]) rfl (by
    walk_at "ev"
    rw [bU]
    walk_at "ev"
    rw [if_pos (by rw [List.length_append];simp;omega)]),e,rj,List.map_cons,List.append_assoc]
   rfl
 obtain ⟨a',s',e⟩:=lp cs 0 [] .un (by simp;omega)
 rw [List.nil_append,List.nil_append] at e
 unfold eH
 walk_at "ev"
 rw [sc.seq]
 walk_at "ev"
 have e0:dq ((0:Int):Rat)=dq 0:=rfl
 rw [e0] at e
 rw [e]
 walk_at "ev"
theorem zEU {ws cs:List Int} (h:Wt ws cs) {i:Nat} {pre post:List Nat} (hm:∀ j∈pre++i::post,j < cs.length) (so:(pre++i::post).Pairwise fun a b=>lv ws cs a<=lv ws cs b) (p:(pre++i::post).Perm (List.range cs.length)):QQ ws cs (lv ws cs i)=((wS cs pre:Int):Rat)+lv ws cs i * ((wS ws (i::post):Int):Rat):=by
 unfold QQ
 rw [<-rM p]
 have app:∀ (f:Nat->Rat) (a b:List Nat),gE f (a++b)=gE f a+gE f b:=by
  intro f a b
  induction a with
  | nil=>rw [List.nil_append,gO,Rat.zero_add]
  | cons x a ih=>rw [List.cons_append,aW,aW,ih];grind
 obtain ⟨s1,s2,s3⟩:=List.pairwise_append.mp so
 rw [app,dM (g:=cR cs) (l:=pre) fun j hj=>zFs h (hm j (List.mem_append_left _ hj)) (s3 j hj i List.mem_cons_self),kL]
 rw [dM (g:=fun j=>cR ws j * lv ws cs i) (l:=i::post) fun j hj=>zEM h (hm j (List.mem_append_right _ hj)) (by
  rcases List.mem_cons.mp hj with rfl | hj
  ·exact Rat.le_refl
  ·exact (List.pairwise_cons.mp s2).1 j hj),cZ,kL]
theorem zKv {ws cs:List Int} (h:Wt ws cs) (hc:Cl cs) {i:Nat} (hi:i < cs.length):Sz 104 (lv ws cs i)/\Dn (ws.getD i 0) (lv ws cs i):=by
 have w:=h.at hi
 have c1:=hc.nn _ (List.mem_of_getElem? (bG hi))
 have c2:=hc.up _ (List.mem_of_getElem? (bG hi))
 refine ⟨?_,cs.getD i 0,?_⟩
 ·unfold lv cR
  rw [<-Rat.divInt_eq_div]
  exact Sz.of (by omega) (by omega) (by omega)
 ·have e:=zAY h hi
  have e':((ws.getD i 0:Int):Rat) * lv ws cs i=((cs.getD i 0:Int):Rat):=e
  rw [<-e']
  grind
theorem zLg {cs:List Int} (hn:∀ c∈cs,0<=c):∀ {π:List Nat},(∀ i∈π,i < cs.length)->0<=wS cs π
 | [],_=>by show (0:Int)<=0;decide
 | i::π,h=>by
  rw [kN]
  have a:=hn _ (List.mem_of_getElem? (bG (h i List.mem_cons_self)))
  have b:=zLg hn fun j hj=>h j (List.mem_cons_of_mem _ hj)
  omega
theorem zJf (cs:List Int) (a b:List Nat):wS cs (a++b)=wS cs a+wS cs b:=by unfold wS;rw [List.map_append,List.sum_append]
theorem nV {ws cs:List Int} {wd cd:D} (sw:Sq wd ws) (sc:Sq cd cs) (h:Wt ws cs) (hc:Cl cs):∃ ls:List Rat,cU [wd,cd]=.ok (.f (((0::ls).map (QQ ws cs)).map dq))/\ls.Pairwise (·<=·)/\ls.Perm ((List.range cs.length).map (lv ws cs))/\QQ ws cs 0=0:=by
 have hcc:∀ c∈cs,0<=c/\c < 10^30:=fun c h=>⟨hc.nn c h,hc.up c h⟩
 have hi:=hc.hi
 have sm:=hc.sum
 have hw:=h.len
 have hkr:=vW (zJq h hcc) (by rw [wL hw];exact hi)
 generalize hkz:(lvs ws cs).map (zHr (qY (lvs ws cs)))=kz at hkr
 have lz:kz.length=cs.length:=by rw [<-hkz,List.length_map,wL hw]
 have B0:(0:Rat) < (qY (lvs ws cs):Rat):=by exact_mod_cast xS (lvs ws cs)
 have kat:∀ i,i < cs.length->((kz.getD i 0:Int):Rat)=lv ws cs i * (qY (lvs ws cs):Rat):=fun i h=>by
  have e:=zGK hw h
  have e2:kz.getD i 0=zHr (qY (lvs ws cs)) (cR cs i / cR ws i):=by rw [<-hkz,List.getD_eq_getElem?_getD,List.getElem?_map,e];rfl
  rw [e2]
  exact zIU (List.mem_of_getElem? e)
 have z0:QQ ws cs 0=0:=by
  unfold QQ
  rw [dM (g:=fun i=>cR ws i * 0) fun i hi=>zEM h (List.mem_range.mp hi) (zEQ h hc (List.mem_range.mp hi)),cZ]
  grind
 have ord:∀ π,fF kz π->π.Perm (List.range cs.length)/\(∀ i∈π,i < cs.length)/\π.Pairwise fun a b=>lv ws cs a<=lv ws cs b:=by
  intro π hπ
  obtain ⟨hp,ho,_⟩:=hπ
  rw [lz] at hp
  have hm:∀ i∈π,i < cs.length:=fun i h=>List.mem_range.mp (hp.mem_iff.mp h)
  refine ⟨hp,hm,List.Pairwise.imp_of_mem (fun {i j} h1 h2 h3=>?_) ho⟩
  have h4:((kz.getD i 0:Int):Rat)<=((kz.getD j 0:Int):Rat):=Rat.intCast_le_intCast.mpr h3
  rw [kat i (hm i h1),kat j (hm j h2)] at h4
  exact Rat.le_of_mul_le_mul_right h4 B0
 obtain ⟨π0,hπ0⟩:=zBK kz
 obtain ⟨p0,m0,s0⟩:=ord π0 hπ0
 have key:∀ π,fF kz π->π.map (lv ws cs)=π0.map (lv ws cs):=fun π hπ=>by
  obtain ⟨p1,m1,s1⟩:=ord π hπ
  exact tI ((p1.trans p0.symm).map _) (List.pairwise_map.mpr s1) (List.pairwise_map.mpr s0)
 refine ⟨π0.map (lv ws cs),?_,List.pairwise_map.mpr s0,p0.map _,z0⟩
 have lp:∀ (π:List Nat) (hπ:π.Perm (List.range cs.length)) (so:π.Pairwise fun a b=>lv ws cs a<=lv ws cs b) (post pre:List Nat) (acc:List D) (s:Sl),π=pre++post->acc.length+post.length<=100->∃ a' b' s',eN (gName 6) eZ (iU post) [.val wd,.val cd,.val (.int (wS cs pre)),.val (.int (wS ws post)),.val (.lst ((lvs ws cs).map dq)),.own acc,s]=.ok (.nx [.val wd,.val cd,a',b',.val (.lst ((lvs ws cs).map dq)),.own (acc++post.map fun i=>dq (QQ ws cs (lv ws cs i))),s']):=by
  intro π hπ so post
  induction post with
  | nil=>intro pre acc s _ _;exact ⟨_,_,s,by rw [List.map_nil,List.append_nil];rfl⟩
  | cons i post ih=>
   intro pre acc s e hl
   have hm:∀ j∈pre++i::post,j < cs.length:=fun j hj=>List.mem_range.mp (hπ.mem_iff.mp (by rw [e];exact hj))
   have hii:=hm i (by simp)
   have ss:=zEU h hm (by rw [<-e];exact so) (by rw [<-e];exact hπ)
   have W:=h.sum (π:=i::post) fun j hj=>hm j (List.mem_append_right _ hj)
   have ln:(pre++i::post).length=cs.length:=by rw [<-e,hπ.length_eq,List.length_range]
   rw [List.length_append,List.length_cons] at ln
   rw [List.length_cons] at W hl
   have F0:=zLg hc.nn (π:=pre) fun j hj=>hm j (List.mem_append_left _ hj)
   have F1:wS cs pre<=cs.sum:=by
    have t:=yU (ws:=cs) (π:=pre++i::post) (by rw [<-e];exact hπ)
    rw [zJf] at t
    have:=zLg hc.nn (π:=i::post) fun j hj=>hm j (List.mem_append_right _ hj)
    omega
   obtain ⟨a',b',s',e'⟩:=ih (pre++[i]) (acc++[dq (QQ ws cs (lv ws cs i))]) (.val (.int (i:Nat))) (by rw [e];simp) (by rw [List.length_append];simp;omega)
   refine ⟨a',b',s',?_⟩
   have zl:=(zKv h hc hii).1
   have zW:Sz 24 ((wS ws (i::post):Int):Rat):=bX (by omega) (by decide)
   have zF:Sz 105 ((wS cs pre:Int):Rat):=bX (by omega) (by decide)
   have ixl:oIx (.lst ((lvs ws cs).map dq)) (.int (i:Int))=.ok (dq (lv ws cs i)):=jX (Int.natCast_nonneg i) (zGK hw hii)
   show eN _ _ (.int (i:Nat)::iU post) _=_
   rw [fW (ρ1:=[.val wd,.val cd,.val (.int (wS cs pre)),.val (.int (wS ws (i::post))),.val (.lst ((lvs ws cs).map dq)),.own acc,.val (.int (i:Nat))]) (ρ2:=[.val wd,.val cd,.val (.int (wS cs (pre++[i]))),.val (.int (wS ws post)),.val (.lst ((lvs ws cs).map dq)),.own (acc++[dq (QQ ws cs (lv ws cs i))]),.val (.int (i:Nat))]) rfl (by
    walk_at "ev"
    rw [bU]
    walk_at "ev"
    rw [ixl]
    walk_at "ev"
    rw [bU]
    walk_at "ev"
    rw [mH zl zW (by decide)]
    walk_at "ev"
    rw [zCu zF (zl.mul zW) (by decide),<-ss]
    walk_at "ev"
    rw [if_pos (by omega)]
    walk_at "ev"
    rw [sc.ix hii]
    walk_at "ev"
    rw [sw.ix (by omega)]
    walk_at "ev"
    rw [zJf,kN ws,show wS cs [i]=cs.getD i 0 by unfold wS;simp,show ws.getD i 0+wS ws post - ws.getD i 0=wS ws post by omega]),e',List.append_assoc]
   rfl
 have one:∀ π,fF kz π->aY (fun ρ=>eN (gName 6) eZ (iU π) ρ) kT [.val wd,.val cd,.val (.int 0),.val (.int ws.sum),.val (.lst ((lvs ws cs).map dq)),.own [dq 0],.un]=.ok (.ret (.f (((0::π0.map (lv ws cs)).map (QQ ws cs)).map dq))):=by
  intro π hπ
  obtain ⟨p1,m1,s1⟩:=ord π hπ
  have lπ:π.length=cs.length:=by rw [p1.length_eq,List.length_range]
  obtain ⟨a',b',s',e⟩:=lp π p1 s1 π [] [dq 0] .un rfl (by simp;omega)
  rw [show wS cs []=0 from rfl,yU (ws:=ws) (π:=π) (by rw [hw];exact p1)] at e
  refine (zJC (a:=fun ρ=>eN (gName 6) eZ (iU π) ρ) e).trans ?_
  rw [<-key π hπ,List.map_cons,z0,List.map_cons,List.map_map,List.map_map]
  rfl
 unfold cU
 walk_at "ev"
 rw [sw.sum]
 walk_at "ev"
 rw [rR sw sc h hi]
 walk_at "ev"
 unfold kH
 rw [zFa (kz:=kz) (by walk_at "ev"; exact hkr) one]
 rfl
theorem pQ {l:List Rat} {S:Int} (hl:l.length<=1000) (hz:∀ x∈l,Sz 300 x) (hS:S.natAbs < 2^105):fI [.lst (l.map dq),dq (S:Rat)]=.ok (.f ((l.reverse.map fun x=>(S:Rat) - x).map dq)):=by
 have zS:Sz 105 (S:Rat):=bX hS (by decide)
 unfold fI
 walk_at "ev"
 rw [show (l.map dq).reverse=l.reverse.map dq by rw [List.map_reverse]]
 rw [eS (u:=dq) (g:=fun x=>dq ((S:Rat) - x)) (by rw [List.length_reverse];omega) (fun x hx=>by
  walk_at "ev"
  rw [eA zS (hz x (List.mem_reverse.mp hx)) (by decide)]
  walk_at "ev")]
 walk_at "ev"
 rw [List.map_map]
 rfl
theorem pG {l:List Rat} (hl:l.length<=900) (hz:∀ x∈0::l,Sz 300 x):cM [.lst ((0::l).map dq)]=.ok (.f ((0::ddR 0 l).map dq)):=by
 have lp:∀ (r:List Rat) (acc:List Rat) (k:Rat) (d:Sl) (s:Sl),(∀ x∈r,Sz 300 x)->Sz 300 k->acc.length+r.length<=1000->∃ s',eN (gName 2) iB (r.map dq) [d,.own ((acc++[k]).map dq),s]=.ok (.nx [d,.own ((acc++k::ddR k r).map dq),s']):=by
  intro r
  induction r with
  | nil=>intro acc k d s _ _ _;exact ⟨s,rfl⟩
  | cons x r ih=>
   intro acc k d s hr hk hl
   rw [List.length_cons] at hl
   have hx:=hr x List.mem_cons_self
   have ixk:oIx (.lst ((acc++[k]).map dq)) (.int (-1))=.ok (dq k):=wO (k:=1) rfl (by decide) (by rw [List.length_append];simp) (by rw [List.length_append];simp)
   have hr':∀ y∈r,Sz 300 y:=fun y hy=>hr y (List.mem_cons_of_mem _ hy)
   rw [List.map_cons,ddR]
   by_cases z:k < x
   ·obtain ⟨s',e⟩:=ih (acc++[k]) x d (.val (dq x)) hr' hx (by rw [List.length_append];simp;omega)
    refine ⟨s',?_⟩
    rw [if_pos z,fW (ρ1:=[d,.own ((acc++[k]).map dq),.val (dq x)]) (ρ2:=[d,.own ((acc++[k]++[x]).map dq),.val (dq x)]) rfl (by
     cases d<;>(
      walk_at "ev"
      rw [ixk]
      walk_at "ev"
      rw [sK hk hx (by decide),decide_eq_true z]
      walk_at "ev"
      rw [if_pos (by rw [List.length_append];simp;omega),List.map_append (l₁:=acc++[k])]
      rfl)),e,List.append_assoc]
    rfl
   ·obtain ⟨s',e⟩:=ih acc k d (.val (dq x)) hr' hk (by omega)
    refine ⟨s',?_⟩
    rw [if_neg z,fW (ρ1:=[d,.own ((acc++[k]).map dq),.val (dq x)]) (ρ2:=[d,.own ((acc++[k]).map dq),.val (dq x)]) rfl (by
     cases d<;>(
      walk_at "ev"
      rw [ixk]
      walk_at "ev"
      rw [sK hk hx (by decide),decide_eq_false z]
      walk_at "ev")),e]
 obtain ⟨s',e⟩:=lp (0::l) [] 0 (.val (.lst ((0::l).map dq))) .un hz ⟨by decide,by decide⟩ (by simp;omega)
 rw [List.nil_append,List.nil_append,ddR,if_neg (by decide)] at e
 unfold cM
 walk_at "ev"
 rw [zHV (by decide),show ((1:Int).toNat)=1 from rfl,show List.take 1 (dq 0::l.map dq)=[0].map dq from rfl]
 rw [List.map_cons] at e
 rw [e]
 rfl
theorem zOA {B S:Int} {x:Rat} (h:Dn B x) (hB:0 < B) (hB':B < 2^30) (h0:0<=x) (h1:x<=(S:Rat)) (hS:S < 2^104):Sz 300 x:=(h.sz (a:=104) (b:=30) hB hB' h0 h1 hS).mono (by decide)
def Jd (cs:List Int) (l:List Rat):Prop:=l.length<=30/\∀ x∈l,∃ B:Int,0 < B/\B<=2 * 10^6/\Dn B x
theorem zKm {w:Wy} {ws cs:List Int}:∀ {l:List Rat},Cn (Jt w ws cs) l->2<=l.length->∀ x∈l,0<=x/\x<=(cs.sum:Rat)
 | [],_,h,x,hx=>by cases hx
 | [a],_,h,x,hx=>by simp at h
 | [a,b],h,_,x,hx=>by
  obtain ⟨h1,h2,h3,_⟩:=h.1
  rcases List.mem_cons.mp hx with rfl | hx
  ·exact ⟨h1,Rat.le_trans h2 h3⟩
  ·rw [List.mem_singleton.mp hx];exact ⟨Rat.le_trans h1 h2,h3⟩
 | a::b::c::l,h,_,x,hx=>by
  obtain ⟨h1,h2,h3,_⟩:=h.1
  rcases List.mem_cons.mp hx with rfl | hx
  ·exact ⟨h1,Rat.le_trans h2 h3⟩
  ·exact zKm h.2 (by simp) x hx
theorem zJb:∀ (r:List Int) (a:Int),∀ x∈rj r a,∃ k:Int,x=(k:Rat)
 | [],a,x,h=>⟨a,List.mem_singleton.mp h⟩
 | c::r,a,x,h=>by
  rcases List.mem_cons.mp h with rfl | h
  ·exact ⟨a,rfl⟩
  ·exact zJb r (a+c) x h
theorem zJo:∀ (r:List Int) (a:Int),(rj r a).length=r.length+1/\(rj r a).getLast?=some ((a+r.sum:Int):Rat)
 | [],a=>⟨rfl,by show some (a:Rat)=_;rw [List.sum_nil,Int.add_zero]⟩
 | c::r,a=>by
  obtain ⟨h1,h2⟩:=zJo r (a+c)
  refine ⟨by rw [rj,List.length_cons,h1,List.length_cons],?_⟩
  obtain ⟨t,et⟩:=zCp r (a+c)
  rw [rj,et,List.getLast?_cons_cons,<-et,h2,List.sum_cons,Int.add_assoc]
theorem zLu {ws cs:List Int} (h:Wt ws cs) (hc:Cl cs) {ls:List Rat} (so:ls.Pairwise (·<=·)) (pm:ls.Perm ((List.range cs.length).map (lv ws cs))):∀ x∈(0::ls).map (QQ ws cs),∃ B:Int,0 < B/\B<=10^6/\Dn B x:=by
 have gd:∀ (t:Rat) (B:Int),Dn B t->Dn B (QQ ws cs t):=fun t B hB=>by
  have all:∀ l:List Nat,Dn B (gE (gets (cR cs) (cR ws) t) l):=by
   intro l
   induction l with
   | nil=>exact Dn.zero B
   | cons i l ih=>
    rw [aW]
    refine Dn.add (Dn.mn ?_ (Dn.int _ _)) ih
    obtain ⟨k,hk⟩:=hB
    refine ⟨ws.getD i 0 * k,?_⟩
    rw [Rat.intCast_mul,<-hk]
    show cR ws i * t * _=cR ws i * _
    grind
  exact all _
 intro x hx
 obtain ⟨t,ht,rfl⟩:=List.mem_map.mp hx
 rcases List.mem_cons.mp ht with rfl | ht
 ·exact ⟨1,by decide,by decide,gd 0 1 (Dn.zero 1)⟩
 ·obtain ⟨i,hi,rfl⟩:=List.mem_map.mp (pm.mem_iff.mp ht)
  have hi':=List.mem_range.mp hi
  have w:=h.at hi'
  exact ⟨ws.getD i 0,by omega,w.2,gd _ _ (zKv h hc hi').2⟩
theorem zEL (w:Wy):aT.lookup w.s=some w.con.s:=by
 cases w
 ·exact zGd
 ·exact wI
 ·exact zDh
 ·exact yF
 ·exact zDv
 ·exact yE
theorem zGJ (w:Wy):cY [.str w.s]=.ok (.v (.str w.con.s)):=by
 have e:sZ aT (.str w.s)=.ok (.str w.con.s):=by show zLx (aT.lookup w.s)=_;rw [zEL];rfl
 unfold cY
 walk_at "ev"
 rw [tN (zEL w)]
 walk_at "ev"
 rw [e]
 walk_at "ev"
theorem xJ:∀ {l:List Rat} {e x:Rat},l.Pairwise (·<=·)->l.getLast?=some e->x∈l->x<=e
 | [],_,_,_,h,_=>by cases h
 | [a],e,x,_,h,hx=>by rw [List.mem_singleton.mp hx];cases h;exact Rat.le_refl
 | a::b::r,e,x,hp,h,hx=>by
  obtain ⟨p1,p2⟩:=List.pairwise_cons.mp hp
  rw [List.getLast?_cons_cons] at h
  rcases List.mem_cons.mp hx with rfl | hx
  ·exact Rat.le_trans (p1 b List.mem_cons_self) (xJ p2 h List.mem_cons_self)
  ·exact xJ p2 h hx
theorem zIq {ws cs:List Int} (h:Wt ws cs) (hc:Cl cs) {ls:List Rat} (so:ls.Pairwise (·<=·)) (pm:ls.Perm ((List.range cs.length).map (lv ws cs))) (z0:QQ ws cs 0=0):JL .even ws cs ((0::ls).map (QQ ws cs)):=by
 have hm:∀ i,i < cs.length->lv ws cs i∈ls:=fun i hi=>pm.mem_iff.mpr (List.mem_map.mpr ⟨i,List.mem_range.mpr hi,rfl⟩)
 have h0:∀ x∈ls,0<=x:=fun x hx=>by
  obtain ⟨i,hi,rfl⟩:=List.mem_map.mp (pm.mem_iff.mp hx)
  exact zEQ h hc (List.mem_range.mp hi)
 refine ⟨zKq h hc so hm h0,by rw [List.map_cons,z0];rfl,?_⟩
 rw [List.getLast?_map]
 obtain ⟨e,he⟩:∃ e,(0::ls).getLast?=some e:=⟨_,List.getLast?_eq_some_getLast (by simp)⟩
 rw [he]
 have so':(0::ls).Pairwise (·<=·):=List.pairwise_cons.mpr ⟨h0,so⟩
 refine congrArg some ?_
 unfold QQ
 rw [dM (g:=cR cs) fun i hi=>zFs h (List.mem_range.mp hi) (xJ so' he (List.mem_cons_of_mem _ (hm i (List.mem_range.mp hi))))]
 exact oO cs
theorem zJh {w:Wy} {ws cs:List Int} (hw:w.due ws cs) (hc:Cl cs) {l:List Rat} (h:JL w ws cs l):JL w.con ws cs (l.reverse.map fun x=>(cs.sum:Rat) - x):=by
 refine ⟨zFr (fun a b k=>zJB hw hc k) h.cn,?_,?_⟩
 ·rw [List.head?_map,List.head?_reverse,h.la]
  show some ((cs.sum:Rat) - (cs.sum:Rat))=some 0
  rw [show (cs.sum:Rat) - (cs.sum:Rat)=0 by grind]
 ·rw [List.getLast?_map,List.getLast?_reverse,h.hd]
  show some ((cs.sum:Rat) - 0)=_
  rw [show (cs.sum:Rat) - 0=(cs.sum:Rat) by grind]
theorem zGY {cs:List Int} (hc:Cl cs) {l:List Rat} (h:JL .even (ones cs) cs l):JL .half [] cs (l.map (· * hf)++(l.map (· * hf)).reverse.map fun x=>(cs.sum:Rat) - x):=by
 have c1:Cn (Jt .half [] cs) (l.map (· * hf)):=zGs (fun a b k=>zJI hc k) h.cn
 have c2:Cn (Jt .half [] cs) ((l.map (· * hf)).reverse.map fun x=>(cs.sum:Rat) - x):=zFr (fun a b k=>zJB (w:=.half) (ws:=[]) rfl hc k) c1
 have s0:(0:Rat)<=(cs.sum:Rat):=by exact_mod_cast hc.sum.1
 have hh:hf+hf=1:=by rw [mE];grind
 have h0:(0:Rat)<=hf:=by rw [mE];grind
 have m0:=Rat.mul_nonneg s0 h0
 refine ⟨zGl c1 c2 fun x y hx hy=>?_,?_,?_⟩
 ·rw [List.getLast?_map,h.la] at hx
  rw [List.head?_map,List.head?_reverse,List.getLast?_map,h.la] at hy
  cases hx
  cases hy
  have e:(cs.sum:Rat) - (cs.sum:Rat) * hf=(cs.sum:Rat) * hf:=by
   generalize (cs.sum:Rat)=S at *
   generalize hf=H at *
   grind
  show Jt .half [] cs ((cs.sum:Rat) * hf) ((cs.sum:Rat) - (cs.sum:Rat) * hf)
  rw [e]
  refine ⟨m0,Rat.le_refl,by grind,fun i hi x x1 x2=>?_⟩
  have:x=(cs.sum:Rat) * hf:=by grind
  subst this
  grind
 ·cases l with
  | nil=>cases h.hd
  | cons a l=>
   cases h.hd
   show some ((0:Rat) * hf)=some 0
   rw [Rat.zero_mul]
 ·have ne:((l.map (· * hf)).reverse.map fun x=>(cs.sum:Rat) - x).getLast?=some (cs.sum:Rat):=by
   rw [List.getLast?_map,List.getLast?_reverse,List.head?_map,h.hd]
   show some ((cs.sum:Rat) - 0 * hf)=_
   rw [show (cs.sum:Rat) - 0 * hf=(cs.sum:Rat) by grind]
  rw [List.getLast?_append,ne]
  rfl
theorem zKy {w:Wy} {ws cs:List Int} (hc:Cl cs) {l:List Rat} (h:JL w ws cs l) (h2:2<=l.length) (d:Jd cs l):∀ x∈l,Sz 300 x:=fun x hx=>by
 obtain ⟨b0,b1⟩:=zKm h.cn h2 x hx
 obtain ⟨B,B0,B1,dn⟩:=d.2 x hx
 exact zOA dn B0 (by omega) b0 b1 hc.sum.2
theorem zGa {w:Wy} {ws cs:List Int} {l:List Rat} (h:JL w ws cs l):∃ t,l=0::t:=by
 cases l with
 | nil=>cases h.hd
 | cons a t=>cases h.hd;exact ⟨t,rfl⟩
section
variable {n:Nat} {ws cs:List Int} {wd cd e:D}
theorem zMz (sc:Sq cd cs) (hc:Cl cs):bA (n+1) [.str (Str.ofString "row"),e,cd]=.ok (.f ((rj cs 0).map dq)):=by
 show bQ (bA n) _=_
 unfold bQ
 walk_at "ev"
 rw [sc.sum]
 walk_at "ev"
 rw [bU]
 walk_at "ev"
 rw [zAR sc hc]
 walk_at "ev"
theorem zJg (sw:Sq wd ws) (sc:Sq cd cs) (h:Wt ws cs) (hc:Cl cs):∃ ls:List Rat,bA (n+1) [.str (Str.ofString "even"),wd,cd]=.ok (.f (((0::ls).map (QQ ws cs)).map dq))/\ls.Pairwise (·<=·)/\ls.Perm ((List.range cs.length).map (lv ws cs))/\QQ ws cs 0=0:=by
 obtain ⟨ls,e1,e2,e3,e4⟩:=nV sw sc h hc
 refine ⟨ls,?_,e2,e3,e4⟩
 show bQ (bA n) _=_
 unfold bQ
 walk_at "ev"
 rw [sc.sum]
 walk_at "ev"
 rw [bU]
 walk_at "ev"
 rw [zPb]
 walk_at "ev"
 rw [e1]
 walk_at "ev"
theorem zMY (sc:Sq cd cs):bA (n+1) [.str (Str.ofString "part"),e,cd]=.ok (.f ([0,(cs.sum:Rat)].map dq)):=by
 show bQ (bA n) _=_
 unfold bQ
 walk_at "ev"
 rw [sc.sum]
 walk_at "ev"
 rw [bU]
 walk_at "ev"
 rw [zOS]
 walk_at "ev"
 rw [zPr]
 walk_at "ev"
theorem zJA (sc:Sq cd cs) (hc:Cl cs):∃ ls:List Rat,bA (n+1) [.str (Str.ofString "half"),e,cd]=.ok (.f ((((0::ls).map (QQ (ones cs) cs)).map (· * hf)++(((0::ls).map (QQ (ones cs) cs)).map (· * hf)).reverse.map fun x=>(cs.sum:Rat) - x).map dq))/\ls.Pairwise (·<=·)/\ls.Perm ((List.range cs.length).map (lv (ones cs) cs))/\QQ (ones cs) cs 0=0:=by
 obtain ⟨ls,e1,e2,e3,e4⟩:=nV (wd:=.lst ((ones cs).map D.int)) (.inl rfl) sc (dO cs) hc
 have hi:=hc.hi
 have sm:=hc.sum
 have W:=dO cs
 have jl:=zIq W hc e2 e3 e4
 have ll:((0::ls).map (QQ (ones cs) cs)).length=cs.length+1:=by rw [List.length_map,List.length_cons,e3.length_eq,List.length_map,List.length_range]
 have bd:=zKm jl.cn (by rw [ll];have:=hc.lo;omega)
 have dn:=zLu W hc e2 e3
 refine ⟨ls,?_,e2,e3,e4⟩
 generalize (0::ls).map (QQ (ones cs) cs)=l at *
 have zl:∀ x∈l,Sz 134 x:=fun x hx=>by
  obtain ⟨B,B0,B1,d⟩:=dn x hx
  exact d.sz (a:=104) (b:=30) B0 (by omega) (bd x hx).1 (bd x hx).2 sm.2
 have eo:(ones cs).map D.int=List.replicate cs.length (.int 1):=by unfold ones;rw [List.map_replicate]
 rw [eo] at e1
 have hh:=zIE
 unfold d_HALF at hh
 show bQ (bA n) _=_
 unfold bQ
 walk_at "ev"
 rw [sc.sum]
 walk_at "ev"
 rw [bU]
 walk_at "ev"
 rw [zOx]
 walk_at "ev"
 rw [zOu]
 walk_at "ev"
 rw [zOK]
 walk_at "ev"
 rw [sc.len]
 walk_at "ev"
 rw [zDg (by omega)]
 walk_at "ev"
 rw [e1]
 walk_at "ev"
 rw [eS (u:=dq) (g:=fun x=>dq (x * hf)) (by omega) (fun x hx=>by
  walk_at "ev"
  rw [hh,mH (zl x hx) wH (by decide)]
  walk_at "ev")]
 walk_at "ev"
 have lm:l.map (fun x=>dq (x * hf))=(l.map (· * hf)).map dq:=by rw [List.map_map];rfl
 rw [lm,pQ (S:=cs.sum) (by rw [List.length_map];omega) (fun x hx=>by
  obtain ⟨y,hy,rfl⟩:=List.mem_map.mp hx
  exact ((zl y hy).mul wH).mono (by decide)) (by omega)]
 walk_at "ev"
 rw [if_pos (by simp only [List.length_reverse,List.length_map];omega),List.map_append]
 walk_at "ev"
end
def SzQ (a b:Nat) (p:Pt):Prop:=Sz a p.1/\Sz b p.2
theorem zZ {a b c:Pt} {n m:Nat} (ha:SzQ n m a) (hb:SzQ n m b) (hc:SzQ n m c) (h:2 * n+2 * m+2<=8999):fR [dp a,dp b,dp c]=.ok (.v (.bl (btw a b c))):=by
 unfold fR
 walk_at "ev"
 rw [eA hb.2 ha.2 (by omega)]
 walk_at "ev"
 rw [eA hc.2 hb.2 (by omega)]
 walk_at "ev"
 rw [eA hb.1 ha.1 (by omega)]
 walk_at "ev"
 rw [eA hc.1 hb.1 (by omega)]
 walk_at "ev"
 rw [mH (hb.2.sub ha.2) (hc.1.sub hb.1) (by omega)]
 walk_at "ev"
 rw [mH (hc.2.sub hb.2) (hb.1.sub ha.1) (by omega)]
 walk_at "ev"
 rfl
theorem zAJ {d:D} {ps:List Pt} {n m:Nat} (hd:d=.lst (ps.map dp)∨d=.tup (ps.map dp)) (hl:ps.length<=100000) (hs:∀ p∈ps,SzQ n m p) (hn:2 * n+2 * m+2<=8999) (hk:Ok ps):fS [d]=.ok (.v .non):=by
 obtain ⟨hh,hp⟩:=hk
 have ln:kP [d]=.ok (.int (ps.length:Int)):=by rcases hd with rfl | rfl<;>simp [bLen_l,bLen_t]
 have ix:∀ (i:Int) (k:Nat) (a:Pt),i=(k:Int)->ps[k]?=some a->oIx d (.int i)=.ok (dp a):=by
  intro i k a hi ha
  subst hi
  rcases hd with rfl | rfl
  ·exact jX (by omega) (by simpa using ha)
  ·exact fM (by omega) (by simpa using ha)
 clear hd
 have hpos:0 < ps.length:=by cases ps with
  | nil=>cases hh
  | cons a r=>exact Nat.succ_pos _
 have h0:ps[0]?=some (0,0):=by rw [<-List.head?_eq_getElem?];exact hh
 unfold fS
 walk_at "ev"
 rw [ln]
 walk_at "ev"
 rw [decide_eq_false (by omega)]
 walk_at "ev"
 rw [ix 0 0 _ rfl h0]
 walk_at "ev"
 rw [ln]
 walk_at "ev"
 rw [xI (by omega) (by omega) (by omega) (by omega)]
 walk_at "ev"
 refine gB (Q:=fun r=>r=Res.ok (Rt.v D.non)) (fun i ρ=>∃ a b c,ρ=[.val d,a,b,c]) ⟨_,_,_,rfl⟩ ?_ ?_
 ·rintro i e ρ hd ⟨a,b,c,rfl⟩
  obtain ⟨hi,rfl⟩:=vX hd
  have h1:ps[i]?=some ps[i]:=List.getElem?_eq_getElem _
  have h2:ps[i+1]?=some ps[i+1]:=List.getElem?_eq_getElem _
  have z1:=hs _ (List.mem_of_getElem? h1)
  have z2:=hs _ (List.mem_of_getElem? h2)
  have za:=qK hp (Nat.lt_succ_self i) h1 h2
  generalize ps[i]=u at h1 z1 za
  generalize ps[i+1]=v at h2 z2 za
  walk_at "ev"
  rw [ix _ i _ (by omega) h1]
  walk_at "ev"
  rw [ix _ (i+1) _ (by omega) h2]
  walk_at "ev"
  rw [sK z1.1 z2.1 (by omega)]
  walk_at "ev"
  rw [decide_eq_true za.1]
  walk_at "ev"
  rw [sK z2.2 z1.2 (by omega)]
  walk_at "ev"
  rw [decide_eq_false (by rw [Rat.not_lt];exact za.2)]
  walk_at "ev"
  exact ⟨_,rfl,_,_,_,rfl⟩
 ·rintro ρ' ⟨a,b,c,rfl⟩
  rfl
theorem zHg {d:D} {ps:List Pt} {n m:Nat} (hd:d=.lst (ps.map dp)∨d=.tup (ps.map dp)) (hl:ps.length<=100000) (hs:∀ p∈ps,SzQ n m p) (hn:2 * n+2 * m+2<=8999) (hk:Ok ps):lK [d]=.ok (.v (.tup ((lS ps).map dp))):=by
 have sq:zIH d=.ok (ps.map dp):=by rcases hd with rfl | rfl<;>rfl
 unfold lK
 walk_at "ev"
 rw [zAJ hd hl hs hn hk]
 walk_at "ev"
 rw [sq]
 walk_at "ev"
 refine gB (Q:=fun r=>r.bind fin=.ok (.v (.tup ((lS ps).map dp)))) (fun i ρ=>∃ a,ρ=[.val d,.own (((ps.take i).foldl push []).reverse.map dp),a]/\(∀ p∈(ps.take i).foldl push [],SzQ n m p)/\((ps.take i).foldl push []).length<=i) ⟨_,rfl,fun p hp=>by (rw [List.take_zero] at hp;cases hp),by rw [List.take_zero];exact Nat.le_refl _⟩ ?_ ?_
 ·rintro i e ρ hd ⟨a,rfl,hz,hlen⟩
  rw [List.getElem?_map] at hd
  cases hq:ps[i]? with
  | none=>rw [hq] at hd;cases hd
  | some p=>
   rw [hq] at hd
   cases hd
   have hi:i < ps.length:=(List.getElem?_eq_some_iff.mp hq).1
   have zp:=hs _ (List.mem_of_getElem? hq)
   rw [zDW hq,List.foldl_append,List.foldl_cons,List.foldl_nil]
   generalize (ps.take i).foldl push []=s at hz hlen
   generalize hK:(sL:Sv)=K
   walk_at "ev"
   by_cases hc:1 < s.length
   case neg=>
    rw [List.length_reverse,decide_eq_false (by omega)]
    subst hK
    walk_at "ev"
    rw [if_pos (by rw [List.length_reverse];omega),zEl hc]
    exact ⟨_,rfl,.val (dp p),by simp,by intro q hq;rcases List.mem_cons.mp hq with rfl | hq;exact zp;exact hz q hq,by simp;omega⟩
   match s,hz,hlen,hc with
   | [],_,_,hc=>exact absurd hc (by decide)
   | [b],_,_,hc=>exact absurd hc (by simp)
   | b::a::s,hz,hlen,_=>
    have za:=hz a (List.mem_cons_of_mem _ List.mem_cons_self)
    have zb:=hz b List.mem_cons_self
    have zs:∀ q∈s,SzQ n m q:=fun q hq=>hz q (List.mem_cons_of_mem _ (List.mem_cons_of_mem _ hq))
    have e1:((b::a::s).reverse)[(b::a::s).reverse.length - 1]?=some b:=by simp
    have e2:((b::a::s).reverse)[(b::a::s).reverse.length - 2]?=some a:=by simp
    rw [List.length_cons,List.length_cons] at hlen
    have hll:(b::a::s).reverse.length=s.length+2:=by simp
    rw [hll]
    rw [decide_eq_true (by omega)]
    walk_at "ev"
    rw [wO (i:=-2) (k:=2) rfl (by decide) (by rw [hll];omega) e2]
    walk_at "ev"
    rw [wO (i:=-1) (k:=1) rfl (by decide) (by rw [hll];omega) e1]
    walk_at "ev"
    rw [zZ za zb zp hn]
    walk_at "ev"
    cases hb:btw a b p with
    | false=>
     subst hK
     walk_at "ev"
     rw [hll,if_pos (by omega)]
     refine ⟨_,rfl,.val (dp p),?_,?_,?_⟩
     ·rw [push,hb]
      simp
     ·rw [push,hb]
      intro q hq
      rcases List.mem_cons.mp hq with rfl | hq
      ·exact zp
      ·exact hz q hq
     ·rw [push,hb]
      simp;omega
    | true=>
     subst hK
     walk_at "ev"
     rw [hll,if_neg (by omega)]
     walk_at "ev"
     rw [if_pos (by simp;omega)]
     refine ⟨_,rfl,.val (dp p),?_,?_,?_⟩
     ·rw [push,hb]
      simp
     ·rw [push,hb]
      intro q hq
      rcases List.mem_cons.mp hq with rfl | hq
      ·exact zp
      ·exact hz q (List.mem_cons_of_mem _ hq)
     ·rw [push,hb]
      simp;omega
 ·rintro ρ' ⟨a,rfl,_,_⟩
  rw [List.length_map,List.take_length]
  walk_at "ev"
  rfl
theorem zMi {w:Wy} {ws cs:List Int} {wd cd:D} {l:List Rat} (hw:w=.back∨w=.lack) (sc:Sq cd cs) (hc:Cl cs) (hl:l.length<=30) (hz:∀ x∈l,Sz 300 x) (e:bA 1 [.str w.con.s,wd,cd]=.ok (.f (l.map dq))):bA 2 [.str w.s,wd,cd]=.ok (.f ((l.reverse.map fun x=>(cs.sum:Rat) - x).map dq)):=by
 have sm:=hc.sum
 have c:=zGJ w
 show bQ (bA 1) _=_
 unfold bQ
 walk_at "ev"
 rw [sc.sum]
 walk_at "ev"
 rw [bU]
 walk_at "ev"
 rcases hw with rfl | rfl
 ·rw [show Wy.back.s=Str.ofString "back" from rfl,zPh]
  walk_at "ev"
  rw [zPi]
  walk_at "ev"
  rw [zPs]
  walk_at "ev"
  rw [zPf]
  walk_at "ev"
  rw [show Str.ofString "back" = Wy.back.s from rfl,c]
  walk_at "ev"
  rw [e]
  walk_at "ev"
  rw [pQ (by omega) hz (by omega)]
  walk_at "ev"
 ·rw [show Wy.lack.s=Str.ofString "lack" from rfl,zPw]
  walk_at "ev"
  rw [zPq]
  walk_at "ev"
  rw [zPa]
  walk_at "ev"
  rw [zPe]
  walk_at "ev"
  rw [show Str.ofString "lack" = Wy.lack.s from rfl,c]
  walk_at "ev"
  rw [e]
  walk_at "ev"
  rw [pQ (by omega) hz (by omega)]
  walk_at "ev"
theorem zJl {cs:List Int} {l:List Rat} (h:Jd cs l):Jd cs (l.reverse.map fun x=>(cs.sum:Rat) - x):=by
 refine ⟨by rw [List.length_map,List.length_reverse];exact h.1,fun x hx=>?_⟩
 obtain ⟨y,hy,rfl⟩:=List.mem_map.mp hx
 obtain ⟨B,b0,b1,d⟩:=h.2 y (List.mem_reverse.mp hy)
 exact ⟨B,b0,b1,(Dn.int B cs.sum).sub d⟩
theorem zIa {w:Wy} {ws cs:List Int} {wd cd:D} (sw:Sq wd ws) (sc:Sq cd cs) (hw:w.due ws cs) (hc:Cl cs):∃ l:List Rat,bA 2 [.str w.s,wd,cd]=.ok (.f (l.map dq))/\JL w ws cs l/\Jd cs l/\2<=l.length:=by
 have hi:=hc.hi
 have lo:=hc.lo
 have row:JL .row [] cs (rj cs 0)/\Jd cs (rj cs 0)/\2<=(rj cs 0).length:=by
  obtain ⟨l1,l2⟩:=zJo cs 0
  refine ⟨⟨zNx hc,?_,by rw [l2,Int.zero_add]⟩,⟨by omega,fun x hx=>?_⟩,by omega⟩
  ·obtain ⟨t,et⟩:=zCp cs 0
   rw [et];rfl
  ·obtain ⟨k,rfl⟩:=zJb cs 0 x hx
   exact ⟨1,by decide,by decide,Dn.int 1 k⟩
 have evn:∀ ls:List Rat,Wt ws cs->ls.Pairwise (·<=·)->ls.Perm ((List.range cs.length).map (lv ws cs))->QQ ws cs 0=0->JL .even ws cs ((0::ls).map (QQ ws cs))/\Jd cs ((0::ls).map (QQ ws cs))/\2<=((0::ls).map (QQ ws cs)).length:=fun ls W e2 e3 e4=>by
  have ll:((0::ls).map (QQ ws cs)).length=cs.length+1:=by rw [List.length_map,List.length_cons,e3.length_eq,List.length_map,List.length_range]
  refine ⟨zIq W hc e2 e3 e4,⟨by omega,fun x hx=>?_⟩,by omega⟩
  obtain ⟨B,b0,b1,d⟩:=zLu W hc e2 e3 x hx
  exact ⟨B,b0,by omega,d⟩
 cases w with
 | row=>
  have e:ws=[]:=hw
  subst e
  exact ⟨_,zMz (n:=1) (e:=wd) sc hc,row⟩
 | part=>
  have e:ws=[]:=hw
  subst e
  refine ⟨_,zMY (n:=1) (e:=wd) sc,⟨zJT hc,rfl,rfl⟩,⟨by show 2<=30;decide,fun x hx=>?_⟩,Nat.le_refl 2⟩
  rcases List.mem_cons.mp hx with rfl | hx
  ·exact ⟨1,by decide,by decide,Dn.zero 1⟩
  ·rw [List.mem_singleton.mp hx];exact ⟨1,by decide,by decide,Dn.int 1 _⟩
 | even=>
  obtain ⟨ls,e1,e2,e3,e4⟩:=zJg (n:=1) sw sc hw hc
  exact ⟨_,e1,evn ls hw e2 e3 e4⟩
 | back=>
  have e:ws=[]:=hw
  subst e
  have k:=zMi (w:=.back) (ws:=[]) (.inl rfl) sc hc row.2.1.1 (zKy hc row.1 row.2.2 row.2.1) (zMz (n:=0) (e:=wd) sc hc)
  exact ⟨_,k,zJh (w:=.row) rfl hc row.1,zJl row.2.1,by rw [List.length_map,List.length_reverse];exact row.2.2⟩
 | lack=>
  obtain ⟨ls,e1,e2,e3,e4⟩:=zJg (n:=0) sw sc hw hc
  obtain ⟨r1,r2,r3⟩:=evn ls hw e2 e3 e4
  have k:=zMi (w:=.lack) (ws:=ws) (.inr rfl) sc hc r2.1 (zKy hc r1 r3 r2) e1
  exact ⟨_,k,zJh (w:=.even) hw hc r1,zJl r2,by rw [List.length_map,List.length_reverse];exact r3⟩
 | half=>
  have e:ws=[]:=hw
  subst e
  obtain ⟨ls,e1,e2,e3,e4⟩:=zJA (n:=1) (e:=wd) sc hc
  have W:=dO cs
  have ll:((0::ls).map (QQ (ones cs) cs)).length=cs.length+1:=by rw [List.length_map,List.length_cons,e3.length_eq,List.length_map,List.length_range]
  have jl:=zIq W hc e2 e3 e4
  have dn:=zLu W hc e2 e3
  generalize (0::ls).map (QQ (ones cs) cs)=l at *
  refine ⟨_,e1,zGY hc jl,⟨?_,fun x hx=>?_⟩,?_⟩
  ·simp only [List.length_append,List.length_map,List.length_reverse];omega
  ·have early:∀ y∈l.map (· * hf),∃ B:Int,0 < B/\B<=2 * 10^6/\Dn B y:=fun y hy=>by
    obtain ⟨z,hz,rfl⟩:=List.mem_map.mp hy
    obtain ⟨B,b0,b1,d⟩:=dn z hz
    exact ⟨B * 2,by omega,by omega,zNa d⟩
   rcases List.mem_append.mp hx with hx | hx
   ·exact early x hx
   ·obtain ⟨y,hy,rfl⟩:=List.mem_map.mp hx
    obtain ⟨B,b0,b1,d⟩:=early y (List.mem_reverse.mp hy)
    exact ⟨B,b0,b1,(Dn.int B cs.sum).sub d⟩
  ·simp only [List.length_append,List.length_map,List.length_reverse];omega
theorem xR {α:Type}:∀ l:List α,l.zip l=l.map fun x=>(x,x)
 | []=>rfl
 | a::l=>by rw [List.zip_cons_cons,xR l,List.map_cons]
theorem zCg {w:Wy} {ws cs:List Int} {wd cd:D} (sw:Sq wd ws) (sc:Sq cd cs) (hw:w.due ws cs) (hc:Cl cs):∃ J:List Rat,fH [.str w.s,wd,cd]=.ok (.f ((List.range cs.length).map fun i=>.tup ((wln w ws cs J i).map dp)))/\JS w ws cs J/\J.length<=30/\∀ x∈J,Sz 300 x/\∀ i,i < cs.length->Sz 670 (FF w ws cs x i):=by
 obtain ⟨l,e1,jl,jd,l2⟩:=zIa sw sc hw hc
 have zl:=zKy hc jl l2 jd
 obtain ⟨t,rfl⟩:=zGa jl
 have js:=jl.js
 have hi:=hc.hi
 have lt:=jd.1
 rw [List.length_cons] at lt
 have e2:=pG (l:=t) (by omega) zl
 have sub:=zCQ t 0
 have ln:(0::ddR 0 t).length<=30:=by rw [List.length_cons];have:=sub.length_le;omega
 have zj:∀ x∈0::ddR 0 t,Sz 300 x:=fun x hx=>zl x (by
  rcases List.mem_cons.mp hx with rfl | hx
  ·exact List.mem_cons_self
  ·exact List.mem_cons_of_mem _ (sub.subset hx))
 generalize 0::ddR 0 t=J at *
 have bd:=js.bd
 have rd:∀ q∈J,aM 2 [.str w.s,wd,cd,dq q]=.ok (.f (((List.range cs.length).map (FF w ws cs q)).map dq))/\∀ i,i < cs.length->Sz 670 (FF w ws cs q i):=fun q hq=>by
  have ha:Haul 300 q cs.sum:=⟨(bd q hq).1,(bd q hq).2,zj q hq⟩
  obtain ⟨f,ef,af⟩:=zEv sw sc (by decide) hw hc ha
  have df:=zNe hw hc ha af
  have eq:∀ i,i < cs.length->f i=FF w ws cs q i:=fun i hi=>zFb hw hc (bd q hq).1 (bd q hq).2 af hi
  refine ⟨by rw [ef,List.map_congr_left (g:=FF w ws cs q) fun i hi=>eq i (List.mem_range.mp hi)],fun i hi=>by rw [<-eq i hi];exact (df.bd i hi).2.2⟩
 refine ⟨J,?_,js,ln,fun x hx=>⟨zj x hx,(rd x hx).2⟩⟩
 unfold fH
 walk_at "ev"
 rw [zIA sw sc hw hc]
 walk_at "ev"
 rw [e1]
 walk_at "ev"
 rw [List.map_cons] at e2
 rw [e2]
 walk_at "ev"
 rw [eS (u:=dq) (g:=fun q=>D.lst (((List.range cs.length).map (FF w ws cs q)).map dq)) (by omega) (fun q hq=>by
  walk_at "ev"
  rw [(rd q hq).1]
  walk_at "ev")]
 walk_at "ev"
 rw [sc.len]
 walk_at "ev"
 rw [zBr (by omega) (by omega)]
 walk_at "ev"
 rw [show rng 0 ((cs.length:Int)).toNat 1=(List.range cs.length).map fun j:Nat=>D.int (j:Int) by unfold rng;rw [Int.toNat_natCast];exact List.map_congr_left fun j _=>by rw [show (0:Int)+(j:Int) * 1=(j:Int) by omega]]
 rw [eS (u:=fun j:Nat=>D.int (j:Int)) (g:=fun i=>D.tup ((wln w ws cs J i).map dp)) (by rw [List.length_range];omega) (fun i hi=>by
  have hi':=List.mem_range.mp hi
  have fl:lE [.lst (J.map dq),.lst (J.map fun q=>D.lst (((List.range cs.length).map (FF w ws cs q)).map dq)),.int (i:Int)]=.ok (.v (.tup ((wln w ws cs J i).map dp))):=by
   obtain ⟨ok,la⟩:=zCw hw hc js hi'
   unfold lE
   walk_at "ev"
   rw [lB rfl rfl]
   walk_at "ev"
   rw [jD (u:=dq) (v:=fun q=>D.lst (((List.range cs.length).map (FF w ws cs q)).map dq)) (g:=fun x y=>dp (x,FF w ws cs y i)) (by omega) (fun p hp=>by
    have e:oIx (.lst (((List.range cs.length).map (FF w ws cs p.2)).map dq)) (.int (i:Int))=.ok (dq (FF w ws cs p.2 i)):=by
     rw [List.map_map]
     exact jX (Int.natCast_nonneg i) (show (List.range cs.length)[i]?=some i from List.getElem?_range hi')
    walk_at "ev"
    rw [e]
    walk_at "ev")]
   walk_at "ev"
   rw [xR,List.map_map,show (J.map ((fun p:Rat×Rat=>dp (p.1,FF w ws cs p.2 i)) ∘ fun x=>(x,x)))=(jpt w ws cs J i).map dp by unfold jpt;rw [List.map_map];rfl]
   rw [zHg (n:=300) (m:=670) (.inl rfl) (by unfold jpt;rw [List.length_map];omega) (fun p hp=>by
    unfold jpt at hp
    obtain ⟨q,hq,rfl⟩:=List.mem_map.mp hp
    exact ⟨zj q hq,(rd q hq).2 i hi'⟩) (by decide) ok]
   walk_at "ev"
   rfl
  walk_at "ev"
  rw [fl]
  walk_at "ev")]
 walk_at "ev"
theorem jB {t b:Int} {n:Nat} (hb0:b≠0) (hn:b.natAbs < 2^n) (h:n<=8999):cA [.int t,.int b]=.ok (.v (dq (Rat.divInt t b))):=by
 have hd:kF (dv t b)=true:=rF (zLL hb0) (Nat.lt_of_le_of_lt (zMu hb0) hn) h
 unfold cA
 walk_at "ev"
 refine zJa (fun ρ=>∃ (x y:Int) (r:Sl),ρ=[.val (.int t),.val (.int b),.val (.int x),.val (.int y),r]/\0<=x/\0<=y/\Int.gcd x y=Int.gcd t b) (fun ρ=>(slI 3 ρ).toNat)
  (fun r=>(r.bind (zEi qD)).bind fin=.ok (.v (dq (Rat.divInt t b)))) ⟨_,_,_,rfl,by omega,by omega,by simp [Int.gcd]⟩ ?_
 rintro ρ ⟨x,y,r,rfl,hx,hy,hg⟩
 by_cases c:y=0
 ·subst c
  have e2:x=(Int.gcd t b:Int):=by
   rw [Int.gcd_zero_right] at hg
   omega
  subst e2
  refine .inl ⟨rfl,?_⟩
  walk_at "ev"
  by_cases c:b < 0
  ·have e:0 - (Int.gcd t b:Int)=dv t b:=by unfold dv;rw [if_pos c];omega
   rw [decide_eq_true c]
   walk_at "ev"
   rw [e,oDiv_i hd]
   walk_at "ev"
   rw [oDiv_i hd]
   walk_at "ev"
   rw [wF hb0,vV hb0]
   rfl
  ·have e:(Int.gcd t b:Int)=dv t b:=by unfold dv;rw [if_neg c]
   rw [decide_eq_false c]
   walk_at "ev"
   rw [e,oDiv_i hd]
   walk_at "ev"
   rw [oDiv_i hd]
   walk_at "ev"
   rw [wF hb0,vV hb0]
   rfl
 ·have hp:0 < y:=by omega
  refine .inr ⟨?_,[.val (.int t),.val (.int b),.val (.int y),.val (.int (x % y)),.val (.int (x % y))],?_,⟨y,x % y,_,rfl,hy,Int.emod_nonneg _ c,(zCs hx hp).trans hg⟩,?_⟩
  ·walk_at "ev"
   rw [decide_eq_true hp]
  ·walk_at "ev"
   rw [oMod_i c,fmod_pos _ hp]
   walk_at "ev"
  ·have:=Int.emod_lt_of_pos x hp
   show (x % y).toNat < y.toNat
   omega
theorem pK {p q:Rat} {m n:Nat} (hp:Sz m p) (hq:Sz n q) (h:m+n<=8999):dN [dq p,dq q]=.ok (.v (dq (p+q))):=by
 unfold dN
 walk_at "ev"
 rw [oMul_i (bF hp.1 hq.d (by omega))]
 walk_at "ev"
 rw [oMul_i (bF hq.1 hp.d (by omega))]
 walk_at "ev"
 rw [oMul_i (bF hp.d hq.d (by omega))]
 walk_at "ev"
 rw [jB (Int.mul_ne_zero (cV p) (cV q)) (dW hp.d hq.d) h,zGq]
 walk_at "ev"
theorem cQ {p q:Rat} {m n:Nat} (hp:Sz m p) (hq:Sz n q) (h:m+n<=8999):bE [dq p,dq q]=.ok (.v (dq (p - q))):=by
 unfold bE
 walk_at "ev"
 rw [oMul_i (bF hp.1 hq.d (by omega))]
 walk_at "ev"
 rw [oMul_i (bF hq.1 hp.d (by omega))]
 walk_at "ev"
 rw [oMul_i (bF hp.d hq.d (by omega))]
 walk_at "ev"
 rw [jB (Int.mul_ne_zero (cV p) (cV q)) (dW hp.d hq.d) h,zHh]
 walk_at "ev"
theorem eD {p q:Rat} {m n:Nat} (hp:Sz m p) (hq:Sz n q) (h:m+n<=8999):aZ [dq p,dq q]=.ok (.v (dq (p * q))):=by
 unfold aZ
 walk_at "ev"
 rw [oMul_i (bF hp.1 hq.1 (by omega))]
 walk_at "ev"
 rw [oMul_i (bF hp.d hq.d (by omega))]
 walk_at "ev"
 rw [jB (Int.mul_ne_zero (cV p) (cV q)) (dW hp.d hq.d) h,zEE]
 walk_at "ev"
theorem lN {p q:Rat} {m n:Nat} (hp:Sz m p) (hq:Sz n q) (h:m+n<=99999):dA [dq p,dq q]=.ok (.v (.bl (decide (p < q)))):=by
 unfold dA
 walk_at "ev"
 rw [oMul_i (bF hp.1 hq.d (by omega))]
 walk_at "ev"
 rw [oMul_i (bF hq.1 hp.d (by omega))]
 walk_at "ev"
 simp only [lt_iff]
theorem jE {q:Rat} {n:Nat} (hq:Sz n q) (h:n<=8999):cB [dq q]=.ok (.v (.bl true)):=by
 unfold cB
 walk_at "ev"
 show ((((Res.ok [D.int q.num,D.int (q.den:Int)]).bind _).bind _).bind _)=_
 walk_at "ev"
 refine xU (Q:=fun r=>r.bind fin=.ok (.v (.bl true))) (fun ρ=>∃ a,ρ=[.val (dq q),a]) ⟨_,rfl⟩ ?_ ?_
 ·rintro d ρ hd ⟨a,rfl⟩
  have hi:∃ i,d=.int i:=by
   rcases List.mem_cons.mp hd with rfl | hd
   ·exact ⟨_,rfl⟩
   ·rcases List.mem_cons.mp hd with rfl | hd
    ·exact ⟨_,rfl⟩
    ·cases hd
  obtain ⟨i,rfl⟩:=hi
  walk_at "ev"
  exact ⟨_,rfl,_,rfl⟩
 ·rintro ρ' ⟨a,rfl⟩
  walk_at "ev"
  rw [decide_eq_true (iX q)]
  walk_at "ev"
  rw [jB (cV q) hq.d h,Rat.num_divInt_den]
  walk_at "ev"
theorem zAq {ps:List Pt} {n m:Nat} {x:Rat} {e:Pt} (hl:ps.length<=100000) (hs:∀ p∈ps,SzP n p) (hx:Sz m x) (hn:8 * n+2 * m<=8000) (hp:ps.Pairwise asc) (he:ps.getLast?=some e) (h0:∀ p,ps[0]?=some p->p.1<=x) (h1:x<=e.1):
  eE [.tup (ps.map dp),dq x]=.ok (.v (dq (cT ps x))):=by
 have hpos:0 < ps.length:=by cases ps with
  | nil=>cases he
  | cons a r=>exact Nat.succ_pos _
 have hla:ps[ps.length - 1]?=some e:=by rw [<-List.getLast?_eq_getElem?];exact he
 unfold eE
 walk_at "ev"
 rw [zBr (by omega) (by omega)]
 walk_at "ev"
 rw [Int.toNat_natCast]
 refine zGP (Q:=fun r=>r.bind fin=.ok (.v (dq (cT ps x)))) (fun i ρ=>∃ a b c d,ρ=[.val (.tup (ps.map dp)),.val (dq x),a,b,c,d]/\∀ j p,j < i->ps[j]?=some p->p.1 < x) ⟨_,_,_,_,rfl,fun j p h=>absurd h (by omega)⟩ ?_ ?_
 ·rintro i d ρ hd ⟨a,b,c,d',rfl,hj⟩
  obtain ⟨hi,rfl⟩:=vX hd
  have hq:ps[i]?=some ps[i]:=List.getElem?_eq_getElem hi
  have zq:=hs _ (List.mem_of_getElem? hq)
  generalize ps[i]=q at hq zq
  have hq':ps[(0+(i:Int) * 1).toNat]?=some q:=by rw [show (0+(i:Int) * 1).toNat=i by omega];exact hq
  walk_at "ev"
  rw [fM (by omega) hq']
  walk_at "ev"
  by_cases c1:q.1=x
  ·rw [decide_eq_true c1]
   walk_at "ev"
   rw [fM (by omega) hq']
   walk_at "ev"
   refine .inr ⟨_,rfl,?_⟩
   rw [<-c1,fN hp hq]
  ·rw [decide_eq_false c1]
   walk_at "ev"
   by_cases c2:i=0
   ·subst c2
    have h00:=h0 q hq
    rw [decide_eq_false (by omega)]
    walk_at "ev"
    refine .inl ⟨_,rfl,_,_,_,_,rfl,fun j p hj hpj=>?_⟩
    have:j=0:=by omega
    subst this
    rw [hq] at hpj
    cases hpj
    grind
   ·rw [decide_eq_true (by omega)]
    walk_at "ev"
    rw [fM (by omega) hq']
    walk_at "ev"
    rw [lN hx zq.1 (by omega)]
    walk_at "ev"
    have hp1:ps[i - 1]?=some ps[i - 1]:=List.getElem?_eq_getElem _
    have zp:=hs _ (List.mem_of_getElem? hp1)
    generalize ps[i - 1]=p at hp1 zp
    have lp:=hj _ p (show i - 1 < i by omega) hp1
    have hp1':ps[(0+(i:Int) * 1 - 1).toNat]?=some p:=by rw [show (0+(i:Int) * 1 - 1).toNat=i - 1 by omega];exact hp1
    by_cases c3:x < q.1
    ·have pos:0 < q.1 - p.1:=by grind
     have z2:=zq.1.sub zp.1
     rw [decide_eq_true c3]
     walk_at "ev"
     rw [fM (by omega) hq']
     walk_at "ev"
     rw [fM (by omega) hp1']
     walk_at "ev"
     rw [cQ zq.1 zp.1 (by omega)]
     walk_at "ev"
     rw [fM (by omega) hq']
     walk_at "ev"
     rw [fM (by omega) hp1']
     walk_at "ev"
     rw [cQ zq.2 zp.2 (by omega)]
     walk_at "ev"
     rw [fM (by omega) hp1']
     walk_at "ev"
     rw [cQ hx zp.1 (by omega)]
     walk_at "ev"
     have z1:=hx.sub zp.1
     have z3:=z1.mul (z2.inv pos)
     rw [zMc pos,eD z1 (z2.inv pos) (by omega)]
     walk_at "ev"
     rw [fM (by omega) hp1']
     walk_at "ev"
     rw [eD z3 (zq.2.sub zp.2) (by omega)]
     walk_at "ev"
     rw [pK zp.2 (z3.mul (zq.2.sub zp.2)) (by omega)]
     walk_at "ev"
     refine .inr ⟨_,rfl,?_⟩
     rw [kR hp hp1 (by rw [show i - 1+1=i by omega];exact hq) (Rat.le_of_lt lp) (Rat.le_of_lt c3)]
     rfl
    ·rw [decide_eq_false c3]
     walk_at "ev"
     refine .inl ⟨_,rfl,_,_,_,_,rfl,fun j p' hj' hpj=>?_⟩
     rcases Nat.lt_or_eq_of_le (show j<=i by omega) with l | l
     ·exact hj j p' l hpj
     ·subst l
      rw [hq] at hpj
      cases hpj
      grind
 ·rintro ρ' ⟨a,b,c,d,rfl,hj⟩
  rw [zJe] at hj
  have:=hj _ e (show ps.length - 1 < ps.length by omega) hla
  exact absurd h1 (by grind)
theorem sG {ps:List Pt} {n m:Nat} {x:Rat} {e:Pt} (hl:ps.length<=100000) (hs:∀ p∈ps,SzP n p) (hx:Sz m x) (hn:8 * n+2 * m<=8000) (hk:Ok ps) (he:ps.getLast?=some e) (h0:0<=x) (h1:x<=e.1):
  eE [.tup (ps.map dp),dq x]=.ok (.v (dq (cT ps x))):=
 zAq hl hs hx hn hk.2 he (fun p hp=>by rw [<-List.head?_eq_getElem?,hk.1] at hp;cases hp;exact h0) h1
theorem zN {ps:List Pt} (h0:0 < ps.length) {n:Nat} (hl:ps.length<=100000) (hs:∀ p∈ps,SzP n p) (hn:n<=2000) (v:D) (hv:v=.lst (ps.map dp)∨v=.tup (ps.map dp)):gA [v]=.ok (.v (.tup ((kB ps).map dp))):=by
 have f0:ps[0]?=some ps[0]:=List.getElem?_eq_getElem _
 have ln:kP [v]=.ok (.int (ps.length:Int)):=by rcases hv with rfl | rfl<;>simp [bLen_l,bLen_t]
 have ix:∀ (j:Int) (k:Nat) (a:Pt),j=(k:Int)->ps[k]?=some a->oIx v (.int j)=.ok (dp a):=by
  intro j k a hj ha
  subst hj
  rcases hv with rfl | rfl
  ·exact jX (by omega) (by simpa using ha)
  ·exact fM (by omega) (by simpa using ha)
 clear hv
 unfold gA
 walk_at "ev"
 rw [ix 0 0 _ rfl f0]
 walk_at "ev"
 rw [ln]
 walk_at "ev"
 rw [xI (by omega) (by omega) (by omega) (by omega)]
 walk_at "ev"
 refine gB (Q:=fun r=>r.bind fin=.ok (.v (.tup ((kB ps).map dp))))
  (fun i ρ=>∃ (t:List Pt) (p:Pt) (a b c d e f:Sl),ρ=[.val v,.own (t.map dp),a,b,c,d,e,f]/\ps[i]?=some p/\t++few p (ps.drop (i+1))=kB ps/\t.length<=i+1)
  ⟨[ps[0]],ps[0],_,_,_,_,_,_,rfl,f0,?_,Nat.le_refl _⟩ ?_ ?_
 ·cases ps with
  | nil=>cases f0
  | cons a r=>rfl
 ·rintro i d ρ hd ⟨t,p,a,b,c,d2,e,f,rfl,hp,ht,hlen⟩
  obtain ⟨hi,rfl⟩:=vX hd
  have h1:ps[i+1]?=some ps[i+1]:=List.getElem?_eq_getElem _
  have z0:=hs _ (List.mem_of_getElem? hp)
  have z1:=hs _ (List.mem_of_getElem? h1)
  rw [List.drop_eq_getElem_cons (show i+1 < ps.length by omega)] at ht
  generalize ps[i+1]=q at h1 z1 ht
  have rest:∀ (s:Bool) (b c d e:Sl),(∀ t',t'=(if s=true then t else t++[q])->t'++few q (ps.drop (i+1+1))=kB ps)->∃ ρ2,eV [.val v,.own (t.map dp),.val (.int (1+(i:Int) * 1)),.val (.bl s),b,c,d,e]=.ok (.nx ρ2)/\
    ∃ (t:List Pt) (p:Pt) (a b c d e f:Sl),ρ2=[.val v,.own (t.map dp),a,b,c,d,e,f]/\ps[i+1]?=some p/\t++few p (ps.drop (i+1+1))=kB ps/\t.length<=i+1+1:=by
   intro s b c d e hh
   cases s with
   | true=>
    walk_at "ev"
    exact ⟨_,rfl,t,q,_,_,_,_,_,_,rfl,h1,hh _ rfl,by omega⟩
   | false=>
    walk_at "ev"
    rw [ix _ (i+1) _ (by omega) h1]
    walk_at "ev"
    rw [if_pos (by omega)]
    exact ⟨_,rfl,t++[q],q,_,_,_,_,_,_,by rw [List.map_append];rfl,h1,hh _ rfl,by simp;omega⟩
  generalize hK:(eV:Sv)=K at rest
  walk_at "ev"
  rw [ln]
  walk_at "ev"
  subst hK
  generalize hK:(eV:Sv)=K at rest ⊢
  by_cases c1:1+(i:Int) * 1+1 < (ps.length:Int)
  ·have h2:ps[i+2]?=some ps[i+2]:=List.getElem?_eq_getElem _
   have z2:=hs _ (List.mem_of_getElem? h2)
   rw [List.drop_eq_getElem_cons (show i+1+1 < ps.length by omega)] at ht
   have hdr:=List.drop_eq_getElem_cons (show i+1+1 < ps.length by omega)
   generalize ps[i+2]=r at h2 z2 ht hdr
   rw [decide_eq_true c1]
   walk_at "ev"
   rw [ix _ (i+1) _ (by omega) h1]
   walk_at "ev"
   rw [ix _ i _ (by omega) hp]
   walk_at "ev"
   rw [cQ z1.1 z0.1 (by omega)]
   walk_at "ev"
   rw [ix _ (i+1) _ (by omega) h1]
   walk_at "ev"
   rw [ix _ i _ (by omega) hp]
   walk_at "ev"
   rw [cQ z1.2 z0.2 (by omega)]
   walk_at "ev"
   rw [ix _ (i+2) _ (by omega) h2]
   walk_at "ev"
   rw [ix _ (i+1) _ (by omega) h1]
   walk_at "ev"
   rw [cQ z2.1 z1.1 (by omega)]
   walk_at "ev"
   rw [ix _ (i+2) _ (by omega) h2]
   walk_at "ev"
   rw [ix _ (i+1) _ (by omega) h1]
   walk_at "ev"
   rw [cQ z2.2 z1.2 (by omega)]
   walk_at "ev"
   rw [eD (z1.2.sub z0.2) (z2.1.sub z1.1) (by omega)]
   walk_at "ev"
   rw [eD (z2.2.sub z1.2) (z1.1.sub z0.1) (by omega)]
   walk_at "ev"
   refine rest _ _ _ _ _ ?_
   rintro t' rfl
   rw [hdr]
   rw [few] at ht
   unfold btw at ht
   by_cases c2:decide ((q.2 - p.2) * (r.1 - q.1)=(r.2 - q.2) * (q.1 - p.1))=true
   ·rw [if_pos c2] at ht ⊢
    exact ht
   ·rw [if_neg c2] at ht ⊢
    rw [List.append_assoc]
    exact ht
  ·rw [decide_eq_false c1]
   walk_at "ev"
   refine rest _ _ _ _ _ ?_
   rintro t' rfl
   rw [List.drop_eq_nil_of_le (by omega)] at ht ⊢
   rw [few,List.append_nil]
   exact ht
 ·rintro ρ' ⟨t,p,a,b,c,d2,e,f,rfl,hp,ht,hlen⟩
  rw [zJe] at ht
  rw [List.drop_eq_nil_of_le (by omega),few,List.append_nil] at ht
  walk_at "ev"
  rw [ht]
theorem zDM {ps:List Pt} {n:Nat} (h:zHZ ps) (hl:ps.length<=100000) (hs:∀ p∈ps,SzP n p) (hn:n<=2000):jH [.tup (ps.map dp)]=.ok (.v (.bl true)):=by
 have hpos:0 < ps.length:=by
  have:=h.1.1
  cases ps with
  | nil=>cases this
  | cons a r=>exact Nat.succ_pos _
 have h0:ps[0]?=some (0,0):=by rw [<-List.head?_eq_getElem?];exact h.1.1
 have ix:∀ (j:Int) (k:Nat) (a:Pt),j=(k:Int)->ps[k]?=some a->oIx (.tup (ps.map dp)) (.int j)=.ok (dp a):=by
  intro j k a hj ha
  subst hj
  exact fM (by omega) (by simpa using ha)
 unfold jH
 walk_at "ev"
 rw [decide_eq_false (by omega)]
 walk_at "ev"
 rw [ix 0 0 _ rfl h0]
 walk_at "ev"
 rw [show (.tup [.tup [.int 0,.int 1],.tup [.int 0,.int 1]]:D)=dp (0,0) from rfl]
 walk_at "ev"
 refine xU (Q:=fun r=>r.bind fin=.ok (.v (.bl true))) (fun ρ=>∃ a b,ρ=[.val (.tup (ps.map dp)),a,b]) ⟨_,_,rfl⟩ ?_ ?_
 ·rintro d ρ hd ⟨a,b,rfl⟩
  obtain ⟨p,hp,rfl⟩:=List.mem_map.mp hd
  have zp:=hs p hp
  walk_at "ev"
  rw [jE zp.1 (by omega)]
  walk_at "ev"
  rw [jE zp.2 (by omega)]
  walk_at "ev"
  exact ⟨_,rfl,_,_,rfl⟩
 ·rintro ρ' ⟨a,b,rfl⟩
  walk_at "ev"
  rw [xI (by omega) (by omega) (by omega) (by omega)]
  walk_at "ev"
  refine gB (Q:=fun r=>r.bind fin=.ok (.v (.bl true))) (fun i ρ=>∃ a b,ρ=[.val (.tup (ps.map dp)),a,b]) ⟨_,_,rfl⟩ ?_ ?_
  ·rintro i e ρ hd ⟨a,b,rfl⟩
   obtain ⟨hi,rfl⟩:=vX hd
   have h1:ps[i]?=some ps[i]:=List.getElem?_eq_getElem _
   have h2:ps[i+1]?=some ps[i+1]:=List.getElem?_eq_getElem _
   have z1:=hs _ (List.mem_of_getElem? h1)
   have z2:=hs _ (List.mem_of_getElem? h2)
   have za:=qK h.1.2 (Nat.lt_succ_self i) h1 h2
   generalize ps[i]=u at h1 z1 za
   generalize ps[i+1]=v at h2 z2 za
   walk_at "ev"
   rw [ix _ i _ (by omega) h1]
   walk_at "ev"
   rw [ix _ (i+1) _ (by omega) h2]
   walk_at "ev"
   rw [lN z1.1 z2.1 (by omega),decide_eq_true za.1]
   walk_at "ev"
   rw [ix _ (i+1) _ (by omega) h2]
   walk_at "ev"
   rw [ix _ i _ (by omega) h1]
   walk_at "ev"
   rw [lN z2.2 z1.2 (by omega),decide_eq_false (by rw [Rat.not_lt];exact za.2)]
   walk_at "ev"
   exact ⟨_,rfl,_,_,rfl⟩
  ·rintro ρ' ⟨a,b,rfl⟩
   walk_at "ev"
   rw [zN hpos (by omega) hs hn _ (.inr rfl),zBW h.2]
   walk_at "ev"
   rw [zEV (zKD _)]
   walk_at "ev"
theorem zD (ns:List Int) (k:Int) (h:0<=k):eU [.lst (ns.map D.int),.int k]=.ok (.v (.int (ns.getD k.toNat 0))):=by
 unfold eU
 walk_at "ev"
 by_cases c:k < (ns.length:Int)
 ·rw [decide_eq_true c]
  walk_at "ev"
  have hk:k.toNat < ns.length:=by omega
  rw [jX h (List.getElem?_eq_getElem hk),List.getD_eq_getElem?_getD,List.getElem?_eq_getElem hk]
  rfl
 ·rw [decide_eq_false c]
  walk_at "ev"
  rw [List.getD_eq_getElem?_getD,List.getElem?_eq_none (by omega)]
  rfl
theorem zHC {ps:List Pt} {e:Pt} {n:Nat} (hl:ps.length<=100000) (hs:∀ p∈ps,SzP n p) (hn:n<=4000) (he:ps.getLast?=some e):lM [.tup (ps.map dp)]=.ok (.v (.tup ((trn ps e).map dp))):=by
 have hpos:0 < ps.length:=by cases ps with
  | nil=>cases he
  | cons a r=>exact Nat.succ_pos _
 have ze:=hs e (List.mem_of_getLast? he)
 unfold lM
 walk_at "ev"
 rw [zHd (i:=-1) (k:=1) rfl (by decide) hpos (by rw [<-List.getLast?_eq_getElem?];exact he)]
 walk_at "ev"
 rw [<-List.map_reverse,eS (u:=dp) (g:=fun p=>dp (e.1 - p.1,e.2 - p.2)) (by rw [List.length_reverse];omega) (fun p hp=>by
  have zp:=hs p (List.mem_reverse.mp hp)
  walk_at "ev"
  rw [eA ze.1 zp.1 (by omega)]
  walk_at "ev"
  rw [eA ze.2 zp.2 (by omega)]
  walk_at "ev")]
 walk_at "ev"
 unfold trn
 rw [List.map_map]
 rfl
theorem zGo (cells:List Int) (plan:Int) (hl:cells.length<=100):∃ cs:List Int,fX [.lst (cells.map D.int),.int plan]=.ok (.f (cs.map D.int))/\cs.length=cells.length/\∀ c∈cs,0<=c/\c < 10^30:=by
 unfold fX
 walk_at "ev"
 refine gB (Q:=fun r=>∃ cs:List Int,r.bind fin=.ok (.f (cs.map D.int))/\cs.length=cells.length/\∀ c∈cs,0<=c/\c < 10^30) (k:=zEi lT) (fun i ρ=>∃ (cs:List Int) (a b:Sl),ρ=[.val (.lst (cells.map D.int)),.val (.int plan),.own (cs.map D.int),a,b]/\cs.length=i/\∀ c∈cs,0<=c/\c < 10^30) ⟨[],_,_,rfl,rfl,fun c h=>by cases h⟩ ?_ ?_
 ·rintro i d ρ hd ⟨cs,a,b,rfl,hl',hc⟩
  have hi:i < cells.length:=by have:=(List.getElem?_eq_some_iff.mp hd).1;rwa [List.length_map] at this
  obtain ⟨cell,hcm,rfl⟩:=List.mem_map.mp (List.mem_of_getElem? hd)
  obtain ⟨j,ej,hj⟩:∃ j:Int,ofO (atD [.int 0,.int 0,.int 1,.int 2] (plan % 4))=.ok (.int j)/\(j=0∨j=1∨j=2):=by
   rcases (show plan % 4=0∨plan % 4=1∨plan % 4=2∨plan % 4=3 by omega) with h | h | h | h<;>rw [h]
   ·exact ⟨0,rfl,.inl rfl⟩
   ·exact ⟨0,rfl,.inl rfl⟩
   ·exact ⟨1,rfl,.inr (.inl rfl)⟩
   ·exact ⟨2,rfl,.inr (.inr rfl)⟩
  generalize hm:(cell * 48271+17) % 2147483647=mix
  obtain ⟨c,c0,c1,ce⟩:∃ c:Int,0<=c/\c < 10^30/\ofO (atD [.int (mix / 7 % 13),.int (mix / 97 % 4),.int (cell % 10^30)] j)=.ok (.int c):=by
   have a:=Int.emod_nonneg cell (show (10:Int)^30≠0 by decide)
   have b:=Int.emod_lt_of_pos cell (show (0:Int) < 10^30 by decide)
   rcases hj with rfl | rfl | rfl
   ·exact ⟨mix / 7 % 13,by omega,by omega,rfl⟩
   ·exact ⟨mix / 97 % 4,by omega,by omega,rfl⟩
   ·exact ⟨cell % 10^30,a,b,rfl⟩
  refine ⟨[.val (.lst (cells.map D.int)),.val (.int plan),.own ((cs++[c]).map D.int),.val (.int cell),.val (.int mix)],?_,cs++[c],_,_,rfl,by rw [List.length_append,hl'];rfl,fun z hz=>?_⟩
  ·walk_at "ev"
   rw [hm,zLO,ej]
   walk_at "ev"
   rw [zLO,ce]
   walk_at "ev"
   rw [if_pos (by omega),List.map_append]
   rfl
  ·rcases List.mem_append.mp hz with h | h
   ·exact hc z h
   ·rw [List.mem_singleton.mp h];exact ⟨c0,c1⟩
 ·rintro ρ ⟨cs,a,b,rfl,hl',hc⟩
  rw [List.length_map] at hl'
  exact ⟨cs,rfl,hl',hc⟩
theorem zGI (L:List (List Pt)):dep (.lst (L.map fun ps=>D.tup (ps.map dp)))<=50:=by
 have:depS (L.map fun ps=>D.tup (ps.map dp))<=4:=zBH fun d hd=>by
  obtain ⟨ps,_,rfl⟩:=List.mem_map.mp hd
  rw [dep]
  have:depS (ps.map dp)<=3:=zBH fun e he=>by
   obtain ⟨p,_,rfl⟩:=List.mem_map.mp he
   exact Nat.le_trans (Nat.le_of_eq (dep_dp p)) (by decide)
  omega
 rw [dep]
 omega
theorem zJr (f:Nat->Rat) (k:Nat):((List.range (k+1)).map f).sum=((List.range k).map f).sum+f k:=by
 rw [List.range_succ,List.map_append]
 have:∀ (l m:List Rat),(l++m).sum=l.sum+m.sum:=by
  intro l m
  induction l with
  | nil=>rw [List.nil_append,List.sum_nil,Rat.zero_add]
  | cons a l ih=>rw [List.cons_append,List.sum_cons,List.sum_cons,ih];grind
 rw [this]
 show _+(f k+0)=_
 rw [Rat.add_zero]
structure Lev (t:Rat):Prop where
 nn:0<=t
 up:t<=((10^30:Int):Rat)
 dn:∃ B:Int,0 < B/\B < 2^42/\Dn B t
theorem Lev.sz {t:Rat} (h:Lev t):Sz 142 t:=by
 obtain ⟨B,b0,b1,d⟩:=h.dn
 exact d.sz (a:=100) (b:=42) b0 b1 h.nn h.up (by decide)
theorem zNb {ws cs:List Int} {t:Rat} {B:Int} (hB:Dn B t) (i:Nat):Dn B (gets (cR cs) (cR ws) t i):=by
 refine Dn.mn ?_ (Dn.int _ _)
 obtain ⟨k,hk⟩:=hB
 refine ⟨ws.getD i 0 * k,?_⟩
 rw [Rat.intCast_mul,<-hk]
 show cR ws i * t * _=cR ws i * _
 grind
theorem zGL {f:Nat->Rat} {B:Int} (h:∀ i,Dn B (f i)):∀ l:List Nat,Dn B (gE f l)
 | []=>Dn.zero B
 | i::l=>by rw [aW];exact (h i).add (zGL h l)
theorem zGS {f:Nat->Rat}:∀ {l:List Nat},(∀ i∈l,0<=f i)->0<=gE f l
 | [],_=>Rat.le_refl
 | i::l,h=>by
  have a:=h i List.mem_cons_self
  have b:=zGS (f:=f) (l:=l) fun j hj=>h j (List.mem_cons_of_mem _ hj)
  rw [aW];grind
theorem zNM {cs:List Int} (hc:Cl cs) {i:Nat} (hi:i < cs.length):0<=cR cs i/\cs.getD i 0 < 10^30:=
 ⟨Rat.intCast_nonneg.mpr (hc.nn _ (List.mem_of_getElem? (bG hi))),hc.up _ (List.mem_of_getElem? (bG hi))⟩
theorem Lev.gets {ws cs:List Int} (h:Wt ws cs) (hc:Cl cs) {t:Rat} (lt:Lev t) {i:Nat} (hi:i < cs.length):Sz 142 (gets (cR cs) (cR ws) t i):=by
 obtain ⟨B,b0,b1,d⟩:=lt.dn
 obtain ⟨g0,g1⟩:=jJ h hc lt.nn hi
 exact (zNb d i).sz (a:=100) (b:=42) b0 b1 g0 g1 (Int.lt_trans (zNM hc hi).2 (show (10:Int)^30 < 2^100 by decide))
theorem Lev.qq {ws cs:List Int} (h:Wt ws cs) (hc:Cl cs) {t:Rat} (lt:Lev t):0<=QQ ws cs t/\QQ ws cs t<=(cs.sum:Rat)/\Sz 146 (QQ ws cs t):=by
 obtain ⟨B,b0,b1,d⟩:=lt.dn
 have g:=fun i (hi:i∈List.range cs.length)=>jJ h hc lt.nn (List.mem_range.mp hi)
 have a:0<=QQ ws cs t:=zGS fun i hi=>(g i hi).1
 have b:QQ ws cs t<=(cs.sum:Rat):=by
  rw [<-oO]
  exact mZ fun i hi=>(g i hi).2
 exact ⟨a,b,(zGL (zNb d) _).sz (a:=104) (b:=42) b0 b1 a b hc.sum.2⟩
theorem Lev.ff {ws cs:List Int} (h:Wt ws cs) (hc:Cl cs) {t:Rat} (lt:Lev t) {i:Nat} (hi:i < cs.length):FF .even ws cs (QQ ws cs t) i=Lw.gets (cR cs) (cR ws) t i:=by
 obtain ⟨a,b,_⟩:=lt.qq h hc
 exact (zFb (M:=142) (w:=.even) (f:=Lw.gets (cR cs) (cR ws) t) h hc a b ⟨t,⟨lt.nn,rfl,fun j hj=>lt.gets h hc hj⟩,fun j _=>rfl⟩ hi).symm
theorem zHb {a b:Rat} {m n:Nat} (za:Sz m a) (zb:Sz n b) (h:n+m<=99999):kI [dq a,dq b]=.ok (.v (dq (mn b a))):=by
 unfold kI
 walk_at "ev"
 rw [lN zb za h]
 unfold mn
 by_cases c:b < a
 ·rw [decide_eq_true c,if_pos c]
  walk_at "ev"
 ·rw [decide_eq_false c,if_neg c]
  walk_at "ev"
theorem zGv {ws cs:List Int} (h:ws.length=cs.length):ws.zip cs=(List.range cs.length).map fun i=>(ws.getD i 0,cs.getD i 0):=by
 refine List.ext_getElem (by rw [List.length_zip,List.length_map,List.length_range];omega) fun i h1 h2=>?_
 have hi:i < cs.length:=by rw [List.length_map,List.length_range] at h2;exact h2
 rw [List.getElem_zip,List.getElem_map,List.getElem_range,List.getD_eq_getElem?_getD,List.getD_eq_getElem?_getD,List.getElem?_eq_getElem (by omega),List.getElem?_eq_getElem hi]
 rfl
theorem xM {ws cs:List Int} (h:Wt ws cs) (hc:Cl cs) {t:Rat} (lt:Lev t):eT [.lst (ws.map D.int),.lst (cs.map D.int),dq t]=.ok (.f ((evs ws cs t).map dq)):=by
 have hi:=hc.hi
 have hw:=h.len
 have z:=lt.sz
 unfold eT
 walk_at "ev"
 rw [lB rfl rfl]
 walk_at "ev"
 rw [jD (u:=D.int) (v:=D.int) (g:=fun w c=>dq (mn ((w:Rat) * t) (c:Rat))) (by omega) (fun p hp=>by
  have h1:=(List.of_mem_zip hp).1
  have h2:=(List.of_mem_zip hp).2
  have w1:=h.lo _ h1
  have w2:=h.up _ h1
  have c1:=hc.nn _ h2
  have c2:=hc.up _ h2
  have zw:Sz 20 (p.1:Rat):=bX (by omega) (by decide)
  have zc:Sz 100 (p.2:Rat):=bX (by omega) (by decide)
  walk_at "ev"
  rw [zDd,zDd,eD zw z (by decide)]
  walk_at "ev"
  rw [zHb zc (zw.mul z) (by decide)]
  walk_at "ev")]
 walk_at "ev"
 rw [zGv hw]
 unfold evs
 rw [List.map_map,List.map_map]
 rfl
theorem zBT {f:Nat->Rat} {n:Nat} (hn:n<=12) (hz:∀ i,i < n->Sz 150 (f i)):gW [.lst (((List.range n).map f).map dq)]=.ok (.v (dq ((List.range n).map f).sum)):=by
 unfold gW
 walk_at "ev"
 refine gB (Q:=fun r=>r.bind fin=.ok (.v (dq ((List.range n).map f).sum))) (k:=zEi nS) (fun k ρ=>∃ a:Sl,ρ=[.val (.lst (((List.range n).map f).map dq)),.val (dq ((List.range k).map f).sum),a]/\Sz (151 * k+1) ((List.range k).map f).sum) ⟨_,rfl,by show Sz 1 (0:Rat);exact ⟨by decide,by decide⟩⟩ ?_ ?_
 ·rintro k d ρ hd ⟨a,rfl,zs⟩
  have hk:k < n:=by have:=(List.getElem?_eq_some_iff.mp hd).1;rwa [List.length_map,List.length_map,List.length_range] at this
  have ed:d=dq (f k):=by
   rw [List.map_map,List.getElem?_map,List.getElem?_range hk] at hd
   exact (Option.some.inj hd).symm
  subst ed
  refine ⟨_,?_,.val (dq (f k)),rfl,by rw [zJr];exact (zs.add (hz k hk)).mono (by omega)⟩
  walk_at "ev"
  rw [pK zs (hz k hk) (by omega),<-zJr]
  walk_at "ev"
 ·rintro ρ ⟨a,rfl,_⟩
  rw [List.length_map,List.length_map,List.length_range]
  rfl
theorem tE {α β:Type} {u:α->D} {v:β->D}:∀ (l:List α) (m:List β),iT (l.map u) (m.map v)=(l.zip m).map fun p=>.tup [u p.1,v p.2]
 | [],_=>by simp [iT]
 | _::_,[]=>by simp [iT]
 | a::l,b::m=>by rw [List.map_cons,List.map_cons,List.zip_cons_cons,List.map_cons,<-tE l m];rfl
def zHj (t:Rat):Prop:=0<=t/\t<=((10^30:Int):Rat)/\∃ B:Int,0 < B/\B<=10^6/\Dn B t
theorem zHj.lev {t:Rat} (h:zHj t):Lev t:=by
 obtain ⟨a,b,B,b0,b1,d⟩:=h
 exact ⟨a,b,B,b0,by omega,d⟩
theorem zEB:zHj 0:=⟨by decide,by decide,1,by decide,by decide,Dn.zero 1⟩
theorem zJU {ws cs:List Int} (h:Wt ws cs) (hc:Cl cs) {i:Nat} (hi:i < cs.length):zHj (lv ws cs i):=by
 have w:=h.at hi
 have n:=zEQ h hc hi
 have m:=zAY h hi
 have c:cR cs i<=((10^30:Int):Rat):=Rat.intCast_le_intCast.mpr (Int.le_of_lt (zNM hc hi).2)
 have w1:(1:Rat)<=cR ws i:=Rat.intCast_le_intCast.mpr w.1
 have k:=Rat.mul_le_mul_of_nonneg_right w1 n
 exact ⟨n,by grind,ws.getD i 0,by omega,w.2,(zKv h hc hi).2⟩
theorem zY {ws cs:List Int} (h:Wt ws cs) (hc:Cl cs):∃ L:List Rat,fU [.lst (ws.map D.int),.lst (cs.map D.int)]=.ok (.f (L.map dq))/\L.length<=13/\(∀ t∈L,zHj t)/\0∈L/\∀ i,i < cs.length->lv ws cs i∈L:=by
 have hi:=hc.hi
 have hw:=h.len
 unfold fU
 walk_at "ev"
 rw [lB rfl rfl]
 walk_at "ev"
 rw [tE,zGv hw,List.map_map]
 refine gB (Q:=fun r=>∃ L:List Rat,r.bind fin=.ok (.f (L.map dq))/\L.length<=13/\(∀ t∈L,zHj t)/\0∈L/\∀ i,i < cs.length->lv ws cs i∈L) (k:=zEi mB) (fun k ρ=>∃ (L:List Rat) (a b c:Sl),ρ=[.val (.lst (ws.map D.int)),.val (.lst (cs.map D.int)),.own (L.map dq),a,b,c]/\L.length<=k+1/\(∀ t∈L,zHj t)/\0∈L/\∀ i,i < k->lv ws cs i∈L) ⟨[0],_,_,_,rfl,Nat.le_refl 1,fun t ht=>by rw [List.mem_singleton.mp ht];exact zEB,List.mem_singleton.mpr rfl,fun i h=>by omega⟩ ?_ ?_
 ·rintro k d ρ hd ⟨L,a,b,c,rfl,hl,hL,h0,hm⟩
  have hk:k < cs.length:=by have:=(List.getElem?_eq_some_iff.mp hd).1;rwa [List.length_map,List.length_range] at this
  have ed:d=.tup [.int (ws.getD k 0),.int (cs.getD k 0)]:=by
   rw [List.getElem?_map,List.getElem?_range hk] at hd
   exact (Option.some.inj hd).symm
  subst ed
  have w:=h.at hk
  have el:Rat.divInt (cs.getD k 0) (ws.getD k 0)=lv ws cs k:=by rw [Rat.divInt_eq_div];rfl
  have fm:=jB (t:=cs.getD k 0) (b:=ws.getD k 0) (n:=20) (by omega) (by omega) (by decide)
  rw [el] at fm
  by_cases z:lv ws cs k∈L
  ·refine ⟨[.val (.lst (ws.map D.int)),.val (.lst (cs.map D.int)),.own (L.map dq),.val (.int (ws.getD k 0)),.val (.int (cs.getD k 0)),.val (dq (lv ws cs k))],?_,L,_,_,_,rfl,by omega,hL,h0,fun i hi=>?_⟩
   ·walk_at "ev"
    rw [fm]
    walk_at "ev"
    rw [tP,decide_eq_true z]
    walk_at "ev"
   ·rcases Nat.lt_succ_iff_lt_or_eq.mp hi with hi | rfl
    ·exact hm i hi
    ·exact z
  ·refine ⟨[.val (.lst (ws.map D.int)),.val (.lst (cs.map D.int)),.own ((L++[lv ws cs k]).map dq),.val (.int (ws.getD k 0)),.val (.int (cs.getD k 0)),.val (dq (lv ws cs k))],?_,L++[lv ws cs k],_,_,_,rfl,by rw [List.length_append,List.length_singleton];omega,fun t ht=>?_,List.mem_append_left _ h0,fun i hi=>?_⟩
   ·walk_at "ev"
    rw [fm]
    walk_at "ev"
    rw [tP,decide_eq_false z]
    walk_at "ev"
    rw [if_pos (by omega),List.map_append]
    rfl
   ·rcases List.mem_append.mp ht with ht | ht
    ·exact hL t ht
    ·rw [List.mem_singleton.mp ht];exact zJU h hc hk
   ·rcases Nat.lt_succ_iff_lt_or_eq.mp hi with hi | rfl
    ·exact List.mem_append_left _ (hm i hi)
    ·exact List.mem_append_right _ (List.mem_singleton.mpr rfl)
 ·rintro ρ ⟨L,a,b,c,rfl,hl,hL,h0,hm⟩
  rw [List.length_map,List.length_range] at hl hm
  exact ⟨L,rfl,by omega,hL,h0,hm⟩
theorem zMg (cs:List Int):cs.map D.int=(List.range cs.length).map fun i=>D.int (cs.getD i 0):=by
 refine List.ext_getElem (by rw [List.length_map,List.length_map,List.length_range]) fun i h1 h2=>?_
 have hi:i < cs.length:=by rw [List.length_map] at h1;exact h1
 rw [List.getElem_map,List.getElem_map,List.getElem_range,List.getD_eq_getElem?_getD,List.getElem?_eq_getElem hi]
 rfl
structure Ls (cs:List Int) (f:Nat->List Pt):Prop where
 ln:∀ i,i < cs.length->zHZ (f i)/\(f i).getLast?=some ((cs.sum:Rat),cR cs i)
 le:∀ i,i < cs.length->(f i).length<=30
 sz:∀ i,i < cs.length->∀ p∈f i,SzP 670 p
def lnD (cs:List Int) (f:Nat->List Pt):List D:=(List.range cs.length).map fun i=>D.tup ((f i).map dp)
theorem uD {cs:List Int} (hc:Cl cs) {f:Nat->List Pt} (h:Ls cs f):dU [.lst (lnD cs f),.lst (cs.map D.int)]=.ok (.v (.bl true)):=by
 have hi:=hc.hi
 have ll:(lnD cs f).length=cs.length:=by unfold lnD;rw [List.length_map,List.length_range]
 unfold dU
 walk_at "ev"
 rw [ll]
 walk_at "ev"
 rw [lB rfl rfl]
 walk_at "ev"
 have ep:iT (lnD cs f) (cs.map D.int)=(List.range cs.length).map fun i=>D.tup [D.tup ((f i).map dp),D.int (cs.getD i 0)]:=by
  unfold lnD
  rw [show iT ((List.range cs.length).map fun i=>D.tup ((f i).map dp)) (cs.map D.int)=iT ((List.range cs.length).map fun i=>D.tup ((f i).map dp)) ((List.range cs.length).map fun i=>D.int (cs.getD i 0)) by rw [<-zMg],tE,xR,List.map_map]
  rfl
 rw [ep]
 refine gB (Q:=fun r=>r.bind fin=.ok (.v (.bl true))) (k:=zEi kC) (fun k ρ=>∃ (a b:Sl),ρ=[.val (.lst (lnD cs f)),.val (.lst (cs.map D.int)),a,b]) ⟨_,_,rfl⟩ ?_ ?_
 ·rintro k d ρ hd ⟨a,b,rfl⟩
  have hk:k < cs.length:=by have:=(List.getElem?_eq_some_iff.mp hd).1;rwa [List.length_map,List.length_range] at this
  have ed:d=.tup [D.tup ((f k).map dp),D.int (cs.getD k 0)]:=by
   rw [List.getElem?_map,List.getElem?_range hk] at hd
   exact (Option.some.inj hd).symm
  subst ed
  obtain ⟨ln,la⟩:=h.ln k hk
  have l0:1<=(f k).length:=by
   cases e:f k with
   | nil=>rw [e] at la;cases la
   | cons a r=>exact Nat.succ_pos _
  have lx:oIx (.tup ((f k).map dp)) (.int (-1))=.ok (dp ((cs.sum:Rat),cR cs k)):=zHd (i:=-1) (k:=1) rfl (by decide) l0 (by rw [<-List.getLast?_eq_getElem?];exact la)
  refine ⟨_,?_,.val (.tup ((f k).map dp)),.val (.int (cs.getD k 0)),rfl⟩
  walk_at "ev"
  rw [zDM ln (by have:=h.le k hk;omega) (h.sz k hk) (by decide)]
  walk_at "ev"
  rw [lx]
  walk_at "ev"
  rw [show D.tup [.tup [.int cs.sum,.int 1],.tup [.int (cs.getD k 0),.int 1]]=dp ((cs.sum:Rat),cR cs k) from rfl,oNe_dp,decide_eq_true rfl]
  walk_at "ev"
 ·rintro ρ ⟨a,b,rfl⟩
  rfl
theorem zKL {w:Wy} {ws cs J:_} (hw:w.due ws cs) (hc:Cl cs) (js:JS w ws cs J) (lJ:J.length<=30) (zJ:∀ x∈J,Sz 300 x/\∀ i,i < cs.length->Sz 670 (FF w ws cs x i)):Ls cs (wln w ws cs J):=by
 refine ⟨fun i hi=>?_,fun i hi=>?_,fun i hi p hp=>?_⟩
 ·obtain ⟨a,b,_,_⟩:=qH hw hc js hi
  exact ⟨a,b⟩
 ·obtain ⟨ok,la⟩:=zCw hw hc js hi
  have h1:=(vZ ok.2).length_le
  have h2:(jpt w ws cs J i).length=J.length:=by unfold jpt;rw [List.length_map]
  show (lS (jpt w ws cs J i)).length<=30
  omega
 ·obtain ⟨_,_,m,_⟩:=qH hw hc js hi
  obtain ⟨m1,m2⟩:=m p hp
  obtain ⟨z1,z2⟩:=zJ p.1 m1
  exact ⟨z1.mono (by decide),by rw [m2];exact z2 i hi⟩
theorem zKo {s t:Rat} (hs:zHj s) (ht:zHj t):Lev (hf * (s+t)):=by
 obtain ⟨s0,s1,B,b0,b1,d⟩:=hs
 obtain ⟨t0,t1,C,c0,c1,e⟩:=ht
 have hh:=mE
 have bc:B * C<=10^6 * 10^6:=Int.mul_le_mul b1 c1 (by omega) (by decide)
 have b2:0 < B * C:=Int.mul_pos b0 c0
 refine ⟨by rw [hh];grind,by rw [hh];grind,B * C * 2,by omega,by omega,?_⟩
 rw [Rat.mul_comm]
 exact zNa ((d.mul C).add (by rw [Int.mul_comm];exact e.mul B))
def hq (cs:List Int) (t:Rat):Rat:=hf * QQ (ones cs) cs t
theorem zLT (x:Rat):hf * x+hf * x=x:=by rw [mE];grind
theorem zKR {cs:List Int} (hc:Cl cs) {t:Rat} (lt:Lev t):0<=hq cs t/\hq cs t<=(cs.sum:Rat)/\hq cs t+hq cs t=QQ (ones cs) cs t/\QQ (ones cs) cs t<=(cs.sum:Rat)/\Sz 148 (hq cs t):=by
 obtain ⟨q0,q1,qz⟩:=lt.qq (dO cs) hc
 have e:=zLT (QQ (ones cs) cs t)
 have h2:hq cs t+hq cs t=QQ (ones cs) cs t:=e
 exact ⟨by grind,by grind,h2,q1,(wH.mul qz).mono (by decide)⟩
theorem zMv {cs:List Int} (hc:Cl cs) {t:Rat} (lt:Lev t) {i:Nat} (hi:i < cs.length):FF .half [] cs (hq cs t) i=hf * gets (cR cs) (cR (ones cs)) t i:=by
 obtain ⟨q0,q1,q2,q3,_⟩:=zKR hc lt
 rw [zGB hc q0 (by rw [q2];exact q3) hi,q2,lt.ff (dO cs) hc hi,Rat.mul_comm]
theorem zLn {cs:List Int} (hc:Cl cs) {t:Rat} (lt:Lev t) {i:Nat} (hi:i < cs.length):FF .half [] cs ((cs.sum:Rat) - hq cs t) i=cR cs i - hf * gets (cR cs) (cR (ones cs)) t i:=by
 obtain ⟨q0,q1,_⟩:=zKR hc lt
 have:=zEC (w:=.half) (ws:=[]) rfl hc q0 q1 hi
 rw [zMv hc lt hi] at this
 exact this
theorem zIC {cs:List Int} (hc:Cl cs) {J:List Rat} (js:JS .half [] cs J) {i:Nat} (hi:i < cs.length):∀ p∈wln .half [] cs J i,∃ t,(p.1=hq cs t∨p.1=(cs.sum:Rat) - hq cs t)/\(t=0∨∃ k,k < cs.length/\t=lv (ones cs) cs k):=by
 have h:=dO cs
 obtain ⟨ls,_,e2,e3,e4⟩:=zJA (n:=1) (e:=.lst []) (cd:=.lst (cs.map D.int)) (.inl rfl) hc
 have jl:=zGY hc (zIq h hc e2 e3 e4)
 obtain ⟨r,er⟩:=zGa jl
 have jl':=jl
 rw [er] at jl'
 have js':=jl'.js
 have tt:∀ t∈0::ls,t=0∨∃ k,k < cs.length/\t=lv (ones cs) cs k:=fun t ht=>by
  rcases List.mem_cons.mp ht with rfl | ht
  ·exact .inl rfl
  ·obtain ⟨k,hk,rfl⟩:=List.mem_map.mp (e3.mem_iff.mp ht)
   exact .inr ⟨k,List.mem_range.mp hk,rfl⟩
 have one:∀ x∈((0::ls).map (QQ (ones cs) cs)).map (· * hf),∃ t,x=hq cs t/\(t=0∨∃ k,k < cs.length/\t=lv (ones cs) cs k):=fun x hx=>by
  obtain ⟨y,hy,rfl⟩:=List.mem_map.mp hx
  obtain ⟨t,ht,rfl⟩:=List.mem_map.mp hy
  exact ⟨t,Rat.mul_comm _ _,tt t ht⟩
 intro p hp
 rw [zJZ (w:=.half) rfl hc js js' hi] at hp
 obtain ⟨_,_,m,_⟩:=qH (w:=.half) rfl hc js' hi
 have m1:p.1∈0::r:=by
  rcases List.mem_cons.mp (m p hp).1 with e | m1
  ·rw [e];exact List.mem_cons_self ..
  ·exact List.mem_cons_of_mem _ ((zCQ _ _).subset m1)
 rw [<-er] at m1
 rcases List.mem_append.mp m1 with m1 | m1
 ·obtain ⟨t,e,ht⟩:=one _ m1
  exact ⟨t,.inl e,ht⟩
 ·obtain ⟨x,hx,e⟩:=List.mem_map.mp m1
  obtain ⟨t,e',ht⟩:=one _ (List.mem_reverse.mp hx)
  exact ⟨t,.inr (by rw [<-e,e']),ht⟩
theorem zJd (cs:List Int):(cs.map fun _=>D.int 1)=(ones cs).map D.int:=by
 unfold ones
 rw [List.map_const',List.map_replicate]
theorem zNz {cs:List Int} (hc:Cl cs) {f:Nat->List Pt} (hf':Ls cs f) (hv:∀ i,i < cs.length->∀ x,0<=x->x<=(cs.sum:Rat)->cT (f i) x=FF .half [] cs x i) {t:Rat} (lt:Lev t) {es:List D} (he:es.length<=1000):dI [.lst (lnD cs f),.lst (cs.map D.int),dq t] es=.ok (true,es++[dq (hq cs t),dq ((cs.sum:Rat) - hq cs t)]):=by
 have hi:=hc.hi
 have hw:=dO cs
 have hh:=zIE
 unfold d_HALF at hh
 obtain ⟨q0,q1,q2,q3,qz⟩:=zKR hc lt
 have sm:=hc.sum
 have zS:Sz 104 ((cs.sum:Int):Rat):=bX (by omega) (by decide)
 have zg:∀ i,i < cs.length->Sz 144 (hf * gets (cR cs) (cR (ones cs)) t i):=fun i h=>(wH.mul (lt.gets hw hc h)).mono (by decide)
 have G0:(evs (ones cs) cs t).map (fun x=>dq (hf * x))=((List.range cs.length).map fun i=>hf * gets (cR cs) (cR (ones cs)) t i).map dq:=by
  unfold evs
  rw [List.map_map,List.map_map]
  rfl
 have sumG:((List.range cs.length).map fun i=>hf * gets (cR cs) (cR (ones cs)) t i).sum=hq cs t:=by
  unfold hq QQ
  have:∀ l:List Nat,(l.map fun i=>hf * gets (cR cs) (cR (ones cs)) t i).sum=hf * gE (gets (cR cs) (cR (ones cs)) t) l:=by
   intro l
   induction l with
   | nil=>show (0:Rat)=hf * 0;rw [Rat.mul_zero]
   | cons a r ih=>rw [List.map_cons,List.sum_cons,ih];show _=hf * (_+_);rw [Rat.mul_add];rfl
  exact this _
 have ft:=zBT (n:=cs.length) (f:=fun i=>hf * gets (cR cs) (cR (ones cs)) t i) (by omega) (fun i h=>(zg i h).mono (by decide))
 rw [sumG] at ft
 have ee:=xM hw hc lt
 have c1:∀ ρ:Rho,zCn jT (eC (.int 1)) ρ (cs.map D.int)=.ok ((ones cs).map D.int):=fun ρ=>by
  rw [<-zJd]
  exact eS (u:=D.int) (g:=fun _=>D.int 1) (by omega) (fun c _=>rfl)
 have c2:∀ x1 x2 x3 x4 x5 x6 x7:Sl,zCn jT (aP aZ (aB (rK (aB (eC (.int 1)) (aB (eC (.int 2)) aNil))) (aB (aF 7) aNil))) [x1,x2,x3,x4,x5,x6,x7] ((evs (ones cs) cs t).map dq)=.ok (((List.range cs.length).map fun i=>hf * gets (cR cs) (cR (ones cs)) t i).map dq):=fun x1 x2 x3 x4 x5 x6 x7=>by
  rw [eS (u:=dq) (g:=fun x=>dq (hf * x)) (by unfold evs;rw [List.length_map,List.length_range];omega) (fun x hx=>by
   obtain ⟨i,h,rfl⟩:=List.mem_map.mp hx
   have z:=lt.gets hw hc (List.mem_range.mp h)
   walk_at "ev"
   rw [hh,eD wH z (by decide)]
   walk_at "ev"),G0]
 have ixl:∀ i:Nat,i < cs.length->oIx (.lst (lnD cs f)) (.int (i:Int))=.ok (.tup ((f i).map dp)):=fun i hi'=>jX (Int.natCast_nonneg i) (show (List.range cs.length)[i]?=some i from List.getElem?_range hi')
 have ixg:∀ i:Nat,i < cs.length->oIx (.lst (((List.range cs.length).map fun i=>hf * gets (cR cs) (cR (ones cs)) t i).map dq)) (.int (i:Int))=.ok (dq (hf * gets (cR cs) (cR (ones cs)) t i)):=fun i hi'=>by
  rw [List.map_map]
  exact jX (Int.natCast_nonneg i) (show (List.range cs.length)[i]?=some i from List.getElem?_range hi')
 have ixc:∀ i:Nat,i < cs.length->oIx (.lst (cs.map D.int)) (.int (i:Int))=.ok (.int (cs.getD i 0)):=fun i hi'=>jX (Int.natCast_nonneg i) (bG hi')
 have ixx:oIx (.lst (es++[dq (hq cs t),dq ((cs.sum:Rat) - hq cs t)])) (.int (-1))=.ok (dq ((cs.sum:Rat) - hq cs t)):=by
  have:es++[dq (hq cs t),dq ((cs.sum:Rat) - hq cs t)]=(es++[dq (hq cs t),dq ((cs.sum:Rat) - hq cs t)]).map fun d=>d:=(List.map_id' _).symm
  rw [this]
  exact wO (i:=-1) (k:=1) rfl (by decide) (by rw [List.length_append];show 1<=es.length+2;omega) (by rw [<-List.getLast?_eq_getElem?,List.getLast?_append];rfl)
 have fm:=cQ zS qz (by decide)
 refine zHE ⟨rfl,by decide,by decide,by decide,he⟩ (a:=.lst (((List.range cs.length).map fun i=>hf * gets (cR cs) (cR (ones cs)) t i).map dq)) (b:=dq (hq cs t)) ?_ ?_ rfl ?_ ?_
 ·unfold L3.start
  walk_at "ev"
  rw [c1]
  walk_at "ev"
  rw [ee]
  walk_at "ev"
  rw [c2]
  walk_at "ev"
 ·unfold L3.start
  walk_at "ev"
  rw [ft]
  walk_at "ev"
 ·unfold L3.start
  walk_at "ev"
  rw [zDd,fm]
  walk_at "ev"
 ·unfold L3.start
  generalize hG:((List.range cs.length).map fun i=>hf * gets (cR cs) (cR (ones cs)) t i).map dq=GG at ixg ⊢
  generalize hX:es++[dq (hq cs t),dq ((cs.sum:Rat) - hq cs t)]=XX at ixx ⊢
  walk_at "ev"
  rw [zBr (by omega) (by omega),Int.toNat_natCast]
  walk_at "ev"
  refine gB (Q:=fun r=>r=.ok (.ret (.v (.bl true)))) (k:=zEi iH) (fun k ρ=>∃ a:Sl,ρ=[.val (.lst (lnD cs f)),.val (.lst (cs.map D.int)),.val (dq t),.val (.lst XX),.val (.lst GG),.val (dq (hq cs t)),a]) ⟨_,rfl⟩ ?_ ?_
  ·rintro k d ρ hd ⟨a,rfl⟩
   obtain ⟨hk,rfl⟩:=vX hd
   rw [show (0:Int)+(k:Int) * 1=(k:Int) by omega]
   obtain ⟨ln,la⟩:=hf'.ln k hk
   have l30:=hf'.le k hk
   have zl:Sz 260 ((cs.sum:Rat) - hq cs t):=(zS.sub qz).mono (by decide)
   have f1:=sG (by omega) (hf'.sz k hk) qz (by decide) ln.1 la q0 q1
   have f2:=sG (by omega) (hf'.sz k hk) zl (by decide) ln.1 la (by grind) (by grind)
   rw [hv k hk _ q0 q1,zMv hc lt hk] at f1
   rw [hv k hk _ (by grind) (by grind),zLn hc lt hk] at f2
   have cb:=hc.up _ (List.mem_of_getElem? (bG hk))
   have cn:=hc.nn _ (List.mem_of_getElem? (bG hk))
   have zc:Sz 100 (cR cs k):=bX (by omega) (by decide)
   have f3:=cQ zc (zg k hk) (by decide)
   refine ⟨_,?_,.val (.int (k:Int)),rfl⟩
   walk_at "ev"
   rw [ixl k hk]
   walk_at "ev"
   rw [f1]
   walk_at "ev"
   rw [ixg k hk]
   walk_at "ev"
   rw [ixl k hk]
   walk_at "ev"
   rw [ixx]
   walk_at "ev"
   rw [f2]
   walk_at "ev"
   rw [ixc k hk]
   walk_at "ev"
   rw [ixg k hk]
   walk_at "ev"
   rw [show D.tup [.int (cs.getD k 0),.int 1]=dq (cR cs k) from rfl,f3]
   walk_at "ev"
  ·rintro ρ ⟨a,rfl⟩
   rfl
def zAN (cs:List Int) (L:List Rat):List Rat:=L.flatMap fun t=>[hq cs t,(cs.sum:Rat) - hq cs t]
abbrev R21 (ns:List Int) (plan:Int) (cs:List Int) (F:D) (L:List Rat) (s6 a7 a8 a9 a10 a11:Sl):Rho:=[.val (.lst (ns.map D.int)),.val (.int plan),.val (.lst (cs.map D.int)),.val (.lst (cs.map D.int)),.val F,.val (.lst (L.map dq)),s6,a7,a8,a9,a10,a11]
theorem zNi {i j l x:Nat} {kf:List D->List D->Res (Bool×List D)} {ρ:Rho} {a b c:D} {es es':List D} (h1:ρ[i]?=some (.val a)) (h2:ρ[j]?=some (.val b)) (h3:ρ[l]?=some (.val c)) (h4:ρ[x]?=some (.own es)) (h:kf [a,b,c] es=.ok (true,es')):zMJ i j l x kf ρ=.ok (.nx (ρ.set x (.own es'))):=by
 unfold zMJ
 rw [h1,h2,h3,h4]
 show zOV _ _ (kf [a,b,c] es)=_
 rw [h]
 rfl
theorem zKk {i j l:Nat} {kf:List D->List D->Res (Bool×List D)} {ρ:Rho} {a b c:D} {es':List D} (h1:ρ[i]?=some (.val a)) (h2:ρ[j]?=some (.val b)) (h3:ρ[l]?=some (.val c)) (h:kf [a,b,c] []=.ok (true,es')):zGe i j l kf ρ=.ok (.nx ρ):=by
 unfold zGe
 rw [h1,h2,h3]
 show zPv _ (kf [a,b,c] [])=_
 rw [h]
 rfl
theorem zLp (cs:List Int) (L:List Rat) {k:Nat} {t:Rat} (h:L[k]?=some t):zAN cs (L.take (k+1))=zAN cs (L.take k)++[hq cs t,(cs.sum:Rat) - hq cs t]:=by
 unfold zAN
 rw [List.take_succ,h,List.flatMap_append]
 rfl
theorem zNH (cs:List Int) (L:List Rat):(zAN cs L).length=2 * L.length:=by
 unfold zAN
 induction L with
 | nil=>rfl
 | cons a r ih=>rw [List.flatMap_cons,List.length_append,ih];show 2+2 * r.length=2 * (r.length+1);omega
theorem zIB {ns cs:List Int} {plan:Int} (hc:Cl cs):(sV [.val (.lst (ns.map D.int)),.val (.int plan),.val (.lst (cs.map D.int)),.un,.un,.un,.un,.un,.un,.un,.un,.un]).bind fin=.ok (.v (.bl true)):=by
 have hi:=hc.hi
 have hw:=dO cs
 have hh:=zIE
 unfold d_HALF at hh
 obtain ⟨J,eJ,js,lJ,zJ⟩:=zCg (w:=.half) (ws:=[]) (wd:=.lst []) (cd:=.lst (cs.map D.int)) (.inl rfl) (.inl rfl) rfl hc
 have ls:=zKL (w:=.half) (ws:=[]) rfl hc js lJ zJ
 have hv:∀ i,i < cs.length->∀ x,0<=x->x<=(cs.sum:Rat)->cT (wln .half [] cs J i) x=FF .half [] cs x i:=fun i hi'=>(qH (w:=.half) (ws:=[]) rfl hc js hi').2.2.2
 have tl:∀ i,i < cs.length->wln .half [] cs J i=trn (wln .half [] cs J i) ((cs.sum:Rat),cR cs i):=fun i hi'=>zKP (w:=.half) (ws:=[]) rfl hc js js hi'
 have hp:∀ i,i < cs.length->∀ p∈wln .half [] cs J i,∃ t,(p.1=hq cs t∨p.1=(cs.sum:Rat) - hq cs t)/\(t=0∨∃ k,k < cs.length/\t=lv (ones cs) cs k):=fun i hi'=>zIC hc js hi'
 have a1:=uD hc ls
 have e1:fH [.str (Str.ofString "half"),.lst [],.lst (cs.map D.int)]=.ok (.f (lnD cs (wln .half [] cs J))):=eJ
 generalize hf0:wln .half [] cs J=f at ls hv tl hp a1 e1
 obtain ⟨L,eL,lL,hL,h0,hm⟩:=zY hw hc
 have la:∀ j,j < L.length->L[j]?=some (L.getD j 0):=fun j hj=>by rw [List.getD_eq_getElem?_getD,List.getElem?_eq_getElem hj];rfl
 have lm:∀ j,j < L.length->zHj (L.getD j 0):=fun j hj=>hL _ (List.mem_of_getElem? (la j hj))
 have l1:1<=L.length:=List.length_pos_of_mem h0
 have c1:∀ ρ:Rho,zCn jT (eC (.int 1)) ρ (cs.map D.int)=.ok ((ones cs).map D.int):=fun ρ=>by
  rw [<-zJd]
  exact eS (u:=D.int) (g:=fun _=>D.int 1) (by omega) (fun c _=>rfl)
 have dl:dep (.lst (lnD cs f))<=50:=by
  have:=zGI ((List.range cs.length).map fun i=>f i)
  rw [List.map_map] at this
  exact this
 have cp:∀ s1 s2 s3 s5 s6 s7 s8 s9 s10 s11 s4:Sl,zCn jT (aP lM (aB (aF 12) aNil)) [s1,s2,s3,s4,.val (.lst (lnD cs f)),s5,s6,s7,s8,s9,s10,s11] (lnD cs f)=.ok (lnD cs f):=fun s1 s2 s3 s5 s6 s7 s8 s9 s10 s11 s4=>by
  unfold lnD
  exact eS (u:=fun i=>D.tup ((f i).map dp)) (g:=fun i=>D.tup ((f i).map dp)) (by rw [List.length_range];omega) (fun i hi'=>by
   have hii:=List.mem_range.mp hi'
   walk_at "ev"
   rw [zHC (by have:=ls.le i hii;omega) (ls.sz i hii) (by decide) (ls.ln i hii).2,<-tl i hii]
   walk_at "ev")
 have last:∀ (s7 s8 s9 s10 s11:Sl),(qZ (R21 ns plan cs (.lst (lnD cs f)) L (.val (.lst ((zAN cs L).map dq))) s7 s8 s9 s10 s11)).bind fin=.ok (.v (.bl true)):=fun s7 s8 s9 s10 s11=>by
  unfold qZ
  walk_at "ev"
  refine gB (Q:=fun r=>r.bind fin=.ok (.v (.bl true))) (k:=zEi zDk) (fun k ρ=>∃ a b:Sl,ρ=R21 ns plan cs (.lst (lnD cs f)) L (.val (.lst ((zAN cs L).map dq))) s7 s8 s9 a b) ⟨_,_,rfl⟩ ?_ ?_
  ·rintro k d ρ hd ⟨a,b,rfl⟩
   have hk:k < cs.length:=by have:=(List.getElem?_eq_some_iff.mp hd).1;unfold lnD at this;rwa [List.length_map,List.length_range] at this
   have ed:d=D.tup ((f k).map dp):=by
    unfold lnD at hd
    rw [List.getElem?_map,List.getElem?_range hk] at hd
    exact (Option.some.inj hd).symm
   subst ed
   obtain ⟨ρ',e,b',rfl⟩:=zHY (g:=gName 11) (b:=zCG) (ds:=(f k).map dp) (ρ:=R21 ns plan cs (.lst (lnD cs f)) L (.val (.lst ((zAN cs L).map dq))) s7 s8 s9 (.val (.tup ((f k).map dp))) b) (fun ρ=>∃ b:Sl,ρ=R21 ns plan cs (.lst (lnD cs f)) L (.val (.lst ((zAN cs L).map dq))) s7 s8 s9 (.val (.tup ((f k).map dp))) b) ⟨_,rfl⟩ (by
    rintro d ρ hd ⟨b,rfl⟩
    obtain ⟨p,hpm,rfl⟩:=List.mem_map.mp hd
    have mF:p.1∈zAN cs L:=by
     obtain ⟨t,et,ht⟩:=hp k hk p hpm
     have mt:t∈L:=by
      rcases ht with rfl | ⟨j,hj,rfl⟩
      ·exact h0
      ·exact hm j hj
     refine List.mem_flatMap.mpr ⟨t,mt,?_⟩
     rcases et with et | et<;>simp [et]
    refine ⟨_,_,rfl,.inl ?_,.val (dp p),rfl⟩
    walk_at "ev"
    rw [tP,decide_eq_true mF]
    walk_at "ev")
   refine ⟨_,?_,.val (.tup ((f k).map dp)),b',rfl⟩
   walk_at "ev"
   rw [e]
  ·rintro ρ ⟨a,b,rfl⟩
   walk_at "ev"
   rw [cp]
   walk_at "ev"
   rw [zEV dl]
   walk_at "ev"
 have mid:∀ (s7:Sl),(rE (R21 ns plan cs (.lst (lnD cs f)) L (.own ((zAN cs L).map dq)) s7 .un .un .un .un)).bind fin=.ok (.v (.bl true)):=fun s7=>by
  unfold rE
  generalize hK:(qZ:Sv)=K at last ⊢
  walk_at "ev"
  rw [xI (by decide) (by decide) (by omega) (by omega)]
  walk_at "ev"
  refine gB (Q:=fun r=>r.bind fin=.ok (.v (.bl true))) (k:=zEi K) (fun k ρ=>∃ a b:Sl,ρ=R21 ns plan cs (.lst (lnD cs f)) L (.val (.lst ((zAN cs L).map dq))) s7 a b .un .un) ⟨_,_,rfl⟩ ?_ ?_
  ·rintro j d ρ hd ⟨a,b,rfl⟩
   obtain ⟨hj,rfl⟩:=vX hd
   have hj':j+1 < L.length:=by omega
   rw [show (1:Int)+(j:Int) * 1=1+(j:Int) by omega]
   have x1:oIx (.lst (L.map dq)) (.int (1+(j:Int) - 1))=.ok (dq (L.getD j 0)):=jX (by omega) (by rw [show (1+(j:Int) - 1).toNat=j by omega];exact la j (by omega))
   have x2:oIx (.lst (L.map dq)) (.int (1+(j:Int)))=.ok (dq (L.getD (j+1) 0)):=jX (by omega) (by rw [show (1+(j:Int)).toNat=j+1 by omega];exact la (j+1) (by omega))
   have z1:=(lm j (by omega)).lev.sz
   have z2:=(lm (j+1) (by omega)).lev.sz
   have lt:=zKo (lm j (by omega)) (lm (j+1) (by omega))
   have fl:=zNz hc ls hv lt (es:=[]) (by decide)
   refine ⟨R21 ns plan cs (.lst (lnD cs f)) L (.val (.lst ((zAN cs L).map dq))) s7 (.val (.int (1+(j:Int)))) (.val (dq (hf * (L.getD j 0+L.getD (j+1) 0)))) .un .un,?_,_,_,rfl⟩
   walk_at "ev"
   rw [x1]
   walk_at "ev"
   rw [x2]
   walk_at "ev"
   rw [pK z1 z2 (by decide)]
   walk_at "ev"
   rw [hh,eD wH (z1.add z2) (by decide)]
   walk_at "ev"
   unfold zDt
   exact zKk rfl rfl rfl fl
  ·rintro ρ ⟨a,b,rfl⟩
   rw [seqF_nx]
   exact last s7 a b .un .un
 unfold sV zFU zFE zGg zCB zDx
 generalize hK:(rE:Sv)=K at mid ⊢
 walk_at "ev"
 rw [e1]
 walk_at "ev"
 rw [zLo (Nat.le_trans (zCZ cs) (by decide))]
 walk_at "ev"
 rw [a1]
 walk_at "ev"
 rw [c1]
 walk_at "ev"
 rw [eL]
 walk_at "ev"
 refine gB (Q:=fun r=>r.bind fin=.ok (.v (.bl true))) (k:=zEi K) (fun k ρ=>∃ a:Sl,ρ=R21 ns plan cs (.lst (lnD cs f)) L (.own ((zAN cs (L.take k)).map dq)) a .un .un .un .un) ⟨.un,by rw [show (zAN cs (L.take 0)).map dq=[] by rw [List.take_zero];rfl]⟩ ?_ ?_
 ·rintro k d ρ hd ⟨a,rfl⟩
  rw [List.getElem?_map] at hd
  obtain ⟨t,ht,rfl⟩:=Option.map_eq_some_iff.mp hd
  have kl:k < L.length:=(List.getElem?_eq_some_iff.mp ht).1
  have fl:=zNz hc ls hv (hL t (List.mem_of_getElem? ht)).lev (es:=(zAN cs (L.take k)).map dq) (by rw [List.length_map,zNH,List.length_take];omega)
  refine ⟨R21 ns plan cs (.lst (lnD cs f)) L (.own ((zAN cs (L.take (k+1))).map dq)) (.val (dq t)) .un .un .un .un,?_,_,rfl⟩
  rw [zLp cs L ht,List.map_append]
  walk_at "ev"
  unfold zDj
  exact zNi rfl rfl rfl rfl fl
 ·rintro ρ ⟨a,rfl⟩
  rw [List.length_map,List.take_length,seqF_nx]
  exact mid a
theorem law_true:∀ ns:List Int,ns.length<=63->zKc [.lst (ns.map D.int)]=.ok (.v (.bl true)):=by
 intro ns hl
 generalize hp:ns.getD 0 0=plan
 obtain ⟨cs0,e0,l0,h0⟩:=zGo ((ns.drop 1).take 6) plan (by rw [List.length_take];omega)
 have l6:cs0.length<=6:=by rw [l0,List.length_take];omega
 have p5:0<=plan % 5/\plan % 5 < 5:=⟨Int.emod_nonneg _ (by decide),Int.emod_lt_of_pos _ (by decide)⟩
 have tail:∀ cs:List Int,Cl cs->(sV [.val (.lst (ns.map D.int)),.val (.int plan),.val (.lst (cs.map D.int)),.un,.un,.un,.un,.un,.un,.un,.un,.un]).bind fin=.ok (.v (.bl true)):=fun cs hc=>zIB hc
 unfold zKc zEK zFQ
 generalize hK:(sV:Sv)=K at tail ⊢
 walk_at "ev"
 rw [zD ns 0 (by decide)]
 walk_at "ev"
 rw [hp,zFY (by decide) (by decide),<-List.map_drop,<-List.map_take]
 rw [show ((1:Int).toNat)=1 from rfl,show ((7:Int).toNat - 1)=6 from rfl,e0]
 walk_at "ev"
 by_cases z:cs0=[]
 ·subst z
  rw [show oEq (.lst (([]:List Int).map D.int)) (.lst [])=.ok (.bl true) from rfl]
  walk_at "ev"
  exact tail [plan % 5] ⟨fun c h=>by rw [List.mem_singleton.mp h];exact p5.1,fun c h=>by rw [List.mem_singleton.mp h];omega,Nat.le_refl 1,by show 1<=12;decide⟩
 ·rw [show oEq (.lst (cs0.map D.int)) (.lst [])=.ok (.bl false) by
   unfold oEq
   rw [if_pos (Nat.le_trans (zCZ cs0) (by decide))]
   obtain ⟨a,r,rfl⟩:=List.exists_cons_of_ne_nil z
   rfl]
  walk_at "ev"
  exact tail cs0 ⟨fun c h=>(h0 c h).1,fun c h=>(h0 c h).2,List.length_pos_iff.mpr z,by omega⟩
end Lw
namespace Lw
open PySem PySem.Spec PyProof.Rows L2 L3
def top (i:Nat):Stmt:=PySem.Challenge.pw_catchhall_k21_half_and_half_lines.main.body.getD i (.Pass ⟨0,0,0,0⟩)
abbrev gC:Stmt:=top 9
theorem bY:FnScope ["one", "two", "rest"] ["one", "two"] (aE gC):=⟨rfl,rfl,rfl,by decide +kernel,rfl,by decide +kernel,by decide +kernel⟩
abbrev zEI:Stmt:=top 10
theorem zBN:FnScope ["top", "bottom", "divisor"] ["top", "bottom"] (aE zEI):=⟨rfl,rfl,rfl,by decide +kernel,rfl,by decide +kernel,by decide +kernel⟩
abbrev zBF:Stmt:=top 11
theorem zHO:FnScope ["number"] ["number"] (aE zBF):=⟨rfl,rfl,rfl,by decide +kernel,rfl,by decide +kernel,by decide +kernel⟩
abbrev zEO:Stmt:=top 12
theorem zKd:FnScope ["one", "two"] ["one", "two"] (aE zEO):=⟨rfl,rfl,rfl,by decide +kernel,rfl,by decide +kernel,by decide +kernel⟩
abbrev zBQ:Stmt:=top 13
theorem zHN:FnScope ["one", "two"] ["one", "two"] (aE zBQ):=⟨rfl,rfl,rfl,by decide +kernel,rfl,by decide +kernel,by decide +kernel⟩
abbrev zCc:Stmt:=top 14
theorem zIj:FnScope ["one", "two"] ["one", "two"] (aE zCc):=⟨rfl,rfl,rfl,by decide +kernel,rfl,by decide +kernel,by decide +kernel⟩
abbrev zHa:Stmt:=top 15
theorem zKs:FnScope ["one", "two"] ["one", "two"] (aE zHa):=⟨rfl,rfl,rfl,by decide +kernel,rfl,by decide +kernel,by decide +kernel⟩
abbrev zFN:Stmt:=top 16
theorem zLk:FnScope ["one", "two"] ["one", "two"] (aE zFN):=⟨rfl,rfl,rfl,by decide +kernel,rfl,by decide +kernel,by decide +kernel⟩
abbrev xZ:Stmt:=top 17
theorem zFG:FnScope ["one", "two"] ["one", "two"] (aE xZ):=⟨rfl,rfl,rfl,by decide +kernel,rfl,by decide +kernel,by decide +kernel⟩
abbrev gM:Stmt:=top 18
theorem oA:FnScope ["some", "bottom", "each"] ["some"] (aE gM):=⟨rfl,rfl,rfl,by decide +kernel,rfl,by decide +kernel,by decide +kernel⟩
abbrev tG:Stmt:=top 22
theorem pL:FnScope ["points", "kept", "point"] ["points"] (aE tG):=⟨rfl,rfl,rfl,by decide +kernel,rfl,by decide +kernel,by decide +kernel⟩
abbrev kM:Stmt:=top 23
theorem gI:FnScope ["points", "spot", "ahead", "point"] ["points"] (aE kM):=⟨rfl,rfl,rfl,by decide +kernel,rfl,by decide +kernel,by decide +kernel⟩
abbrev kQ:Stmt:=top 24
theorem eQ:FnScope ["ahead", "point", "later", "rise", "later_rise", "run", "later_run"] ["ahead", "point", "later"] (aE kQ):=⟨rfl,rfl,rfl,by decide +kernel,rfl,by decide +kernel,by decide +kernel⟩
abbrev rH:Stmt:=top 25
theorem tM:FnScope ["line", "end"] ["line"] (aE rH):=⟨rfl,rfl,rfl,by decide +kernel,rfl,by decide +kernel,by decide +kernel⟩
abbrev xD:Stmt:=top 30
theorem zGu:FnScope ["way", "weights", "claims"] ["way", "weights", "claims"] (aE xD):=⟨rfl,rfl,rfl,by decide +kernel,rfl,by decide +kernel,by decide +kernel⟩
abbrev kZ:Stmt:=top 31
theorem yT:FnScope ["way"] ["way"] (aE kZ):=⟨rfl,rfl,rfl,by decide +kernel,rfl,by decide +kernel,by decide +kernel⟩
abbrev gX:Stmt:=top 32
theorem jZ:FnScope ["claims", "claim"] ["claims"] (aE gX):=⟨rfl,rfl,rfl,by decide +kernel,rfl,by decide +kernel,by decide +kernel⟩
abbrev gD:Stmt:=top 33
theorem fG:FnScope ["way", "weights", "many", "due", "weight"] ["way", "weights", "many"] (aE gD):=⟨rfl,rfl,rfl,by decide +kernel,rfl,by decide +kernel,by decide +kernel⟩
abbrev iW:Stmt:=top 34
theorem sT:FnScope ["way"] ["way"] (aE iW):=⟨rfl,rfl,rfl,by decide +kernel,rfl,by decide +kernel,by decide +kernel⟩
abbrev dF:Stmt:=top 35
theorem dX:FnScope ["way", "weights", "claims", "catch", "most", "lacking"] ["way", "weights", "claims", "catch"] (aE dF):=⟨rfl,rfl,rfl,by decide +kernel,rfl,by decide +kernel,by decide +kernel⟩
abbrev mD:Stmt:=top 36
theorem eI:FnScope ["claims", "catch", "left", "amounts", "claim", "amount"] ["claims", "catch"] (aE mD):=⟨rfl,rfl,rfl,by decide +kernel,rfl,by decide +kernel,by decide +kernel⟩
abbrev lF:Stmt:=top 37
theorem cH:FnScope ["weights", "claims", "catch", "left", "weight", "amounts", "spot", "by_weight"] ["weights", "claims", "catch"] (aE lF):=⟨rfl,rfl,rfl,by decide +kernel,rfl,by decide +kernel,by decide +kernel⟩
abbrev jS:Stmt:=top 38
theorem zAL:FnScope ["weights", "claims"] ["weights", "claims"] (aE jS):=⟨rfl,rfl,rfl,by decide +kernel,rfl,by decide +kernel,by decide +kernel⟩
abbrev iM:Stmt:=top 39
theorem gJ:FnScope ["claims", "catch", "most", "part"] ["claims", "catch"] (aE iM):=⟨rfl,rfl,rfl,by decide +kernel,rfl,by decide +kernel,by decide +kernel⟩
abbrev iK:Stmt:=top 40
theorem jN:FnScope ["claims", "catch", "ones"] ["claims", "catch"] (aE iK):=⟨rfl,rfl,rfl,by decide +kernel,rfl,by decide +kernel,by decide +kernel⟩
abbrev hU:Stmt:=top 42
theorem fT:FnScope ["way", "weights", "claims", "joints", "dealings"] ["way", "weights", "claims"] (aE hU):=⟨rfl,rfl,rfl,by decide +kernel,rfl,by decide +kernel,by decide +kernel⟩
abbrev nY:Stmt:=top 43
theorem zDV:FnScope ["joints", "dealings", "spot"] ["joints", "dealings", "spot"] (aE nY):=⟨rfl,rfl,rfl,by decide +kernel,rfl,by decide +kernel,by decide +kernel⟩
abbrev gY:Stmt:=top 44
theorem fY:FnScope ["way", "weights", "claims", "most", "early"] ["way", "weights", "claims"] (aE gY):=⟨rfl,rfl,rfl,by decide +kernel,rfl,by decide +kernel,by decide +kernel⟩
abbrev kJ:Stmt:=top 45
theorem eY:FnScope ["claims", "filled", "joints", "claim"] ["claims"] (aE kJ):=⟨rfl,rfl,rfl,by decide +kernel,rfl,by decide +kernel,by decide +kernel⟩
abbrev jK:Stmt:=top 46
theorem bV:FnScope ["weights", "claims", "filled", "weight", "levels", "joints", "spot"] ["weights", "claims"] (aE jK):=⟨rfl,rfl,rfl,by decide +kernel,rfl,by decide +kernel,by decide +kernel⟩
abbrev lQ:Stmt:=top 47
theorem sP:FnScope ["joints", "most"] ["joints", "most"] (aE lQ):=⟨rfl,rfl,rfl,by decide +kernel,rfl,by decide +kernel,by decide +kernel⟩
abbrev fK:Stmt:=top 48
theorem eP:FnScope ["joints", "kept", "joint"] ["joints"] (aE fK):=⟨rfl,rfl,rfl,by decide +kernel,rfl,by decide +kernel,by decide +kernel⟩
abbrev jR:Stmt:=top 50
theorem vI:FnScope ["script", "k"] ["script", "k"] (aE jR):=⟨rfl,rfl,rfl,by decide +kernel,rfl,by decide +kernel,by decide +kernel⟩
abbrev pF:Stmt:=top 51
theorem dZ:FnScope ["top", "bottom", "one", "other", "rest"] ["top", "bottom"] (aE pF):=⟨rfl,rfl,rfl,by decide +kernel,rfl,by decide +kernel,by decide +kernel⟩
abbrev pA:Stmt:=top 52
theorem zCo:FnScope ["one", "two"] ["one", "two"] (aE pA):=⟨rfl,rfl,rfl,by decide +kernel,rfl,by decide +kernel,by decide +kernel⟩
abbrev mV:Stmt:=top 53
theorem zAZ:FnScope ["one", "two"] ["one", "two"] (aE mV):=⟨rfl,rfl,rfl,by decide +kernel,rfl,by decide +kernel,by decide +kernel⟩
abbrev mG:Stmt:=top 54
theorem zR:FnScope ["one", "two"] ["one", "two"] (aE mG):=⟨rfl,rfl,rfl,by decide +kernel,rfl,by decide +kernel,by decide +kernel⟩
abbrev pT:Stmt:=top 55
theorem zBq:FnScope ["one", "two"] ["one", "two"] (aE pT):=⟨rfl,rfl,rfl,by decide +kernel,rfl,by decide +kernel,by decide +kernel⟩
abbrev fL:Stmt:=top 56
theorem iL:FnScope ["found", "number"] ["found"] (aE fL):=⟨rfl,rfl,rfl,by decide +kernel,rfl,by decide +kernel,by decide +kernel⟩
abbrev kU:Stmt:=top 57
theorem bT:FnScope ["points", "told", "k", "straight", "run", "rise", "more", "up"] ["points"] (aE kU):=⟨rfl,rfl,rfl,by decide +kernel,rfl,by decide +kernel,by decide +kernel⟩
abbrev mO:Stmt:=top 58
theorem fP:FnScope ["line", "x", "k", "run", "rise", "part"] ["line", "x"] (aE mO):=⟨rfl,rfl,rfl,by decide +kernel,rfl,by decide +kernel,by decide +kernel⟩
abbrev pI:Stmt:=top 59
theorem mP:FnScope ["found", "point", "k"] ["found"] (aE pI):=⟨rfl,rfl,rfl,by decide +kernel,rfl,by decide +kernel,by decide +kernel⟩
abbrev iS:Stmt:=top 60
theorem gQ:FnScope ["found", "claims", "line", "claim"] ["found", "claims"] (aE iS):=⟨rfl,rfl,rfl,by decide +kernel,rfl,by decide +kernel,by decide +kernel⟩
abbrev kX:Stmt:=top 61
theorem gH:FnScope ["cells", "plan", "claims", "cell", "mix"] ["cells", "plan"] (aE kX):=⟨rfl,rfl,rfl,by decide +kernel,rfl,by decide +kernel,by decide +kernel⟩
abbrev tO:Stmt:=top 63
theorem zEg:FnScope ["one", "two"] ["one", "two"] (aE tO):=⟨rfl,rfl,rfl,by decide +kernel,rfl,by decide +kernel,by decide +kernel⟩
abbrev nD:Stmt:=top 64
theorem iI:FnScope ["some", "found", "one"] ["some"] (aE nD):=⟨rfl,rfl,rfl,by decide +kernel,rfl,by decide +kernel,by decide +kernel⟩
abbrev lI:Stmt:=top 65
theorem eR:FnScope ["weights", "claims", "levels", "weight", "claim", "level"] ["weights", "claims"] (aE lI):=⟨rfl,rfl,rfl,by decide +kernel,rfl,by decide +kernel,by decide +kernel⟩
abbrev gK:Stmt:=top 66
theorem uA:FnScope ["weights", "claims", "level"] ["weights", "claims", "level"] (aE gK):=⟨rfl,rfl,rfl,by decide +kernel,rfl,by decide +kernel,by decide +kernel⟩
abbrev dD:Stmt:=top 67
theorem cE:FnScope ["found", "claims", "level", "xs", "got", "much", "k"] ["found", "claims", "level", "xs"] (aE dD):=⟨rfl,rfl,rfl,by decide +kernel,rfl,by decide +kernel,by decide +kernel⟩
abbrev oZ:Stmt:=top 68
theorem gU:FnScope ["script", "plan", "claims", "handed", "found", "levels", "xs", "level", "k", "half", "line", "point"] ["script"] (aE oZ):=⟨rfl,rfl,rfl,by decide +kernel,rfl,by decide +kernel,by decide +kernel⟩
structure Bt (mg:Str->Option Value):Prop where
 abs:mg "abs" = none
 sorted:mg "sorted" = none
 range:mg "range" = none
 len:mg "len" = none
 tuple:mg "tuple" = none
 reversed:mg "reversed" = none
 sum:mg "sum" = none
 zip:mg "zip" = none
 isinstance:mg "isinstance" = none
 bool:mg "bool" = none
 int:mg "int" = none
 list:mg "list" = none
structure Kt (K:PySem.W.Frag):Prop where
 bool:Kit K "bool"
 int:Kit K "int"
 list:Kit K "list"
 tuple:Kit K "tuple"
structure Ct (K:PySem.W.Frag) (mg:Str->Option Value):Prop where
 ACROSS:∃ v u,mg "ACROSS" = some u/\cP v u/\IsD K (fun _=>none) v d_ACROSS
 HALF:∃ v u,mg "HALF" = some u/\cP v u/\IsD K (fun _=>none) v d_HALF
 NOUGHT:∃ v u,mg "NOUGHT" = some u/\cP v u/\IsD K (fun _=>none) v gF
 UP:∃ v u,mg "UP" = some u/\cP v u/\IsD K (fun _=>none) v d_UP
 WEIGHTED:∃ v u,mg "WEIGHTED" = some u/\cP v u/\IsD K (fun _=>none) v d_WEIGHTED
 CONTRARY:∃ a,IsTab K mg "CONTRARY" aT a
structure Rt (K:PySem.W.Frag) (mg:Str->Option Value):Prop where
 BadClaim:∃ C,Err K mg "BadClaim" C
 BadLine:∃ C,Err K mg "BadLine" C
 BadWay:∃ C,Err K mg "BadWay" C
 BadWeights:∃ C,Err K mg "BadWeights" C
 NoFraction:∃ C,Err K mg "NoFraction" C
structure Et (K:PySem.W.Frag) (mg:Str->Option Value):Prop where
theorem zOj {K:PySem.W.Frag} {h:Heap} {mg:Str->Option Value} {t0 t1 t2 t3 t4 t5 t6 t7:Tok} {pHALF0:Addr} {o_pHALF0:Option Addr} {n_pHALF0:Nat} {s_pHALF0:Array (Option Value)} {pNOUGHT1:Addr} {o_pNOUGHT1:Option Addr} {n_pNOUGHT1:Nat} {s_pNOUGHT1:Array (Option Value)} {pWEIGHTED2:Addr} {o_pWEIGHTED2:Option Addr} {n_pWEIGHTED2:Nat} {s_pWEIGHTED2:Array (Option Value)} {a_CONTRARY:Addr} (X:K.In h) (G:h.Ns mainGlobals mg) (n_ACROSS:PySem.W.nsIn K mainGlobals "ACROSS" = some (some (.int (0) t0))) (n_HALF:PySem.W.nsIn K mainGlobals "HALF" = some (some (.ref pHALF0))) (pHALF0_l:K.lookup pHALF0=some ⟨.type "tuple", o_pHALF0,.seq #[.int (1) t1,.int (2) t2] n_pHALF0,s_pHALF0⟩) (n_NOUGHT:PySem.W.nsIn K mainGlobals "NOUGHT" = some (some (.ref pNOUGHT1))) (pNOUGHT1_l:K.lookup pNOUGHT1=some ⟨.type "tuple", o_pNOUGHT1,.seq #[.int (0) t3,.int (1) t4] n_pNOUGHT1,s_pNOUGHT1⟩) (n_UP:PySem.W.nsIn K mainGlobals "UP" = some (some (.int (1) t5))) (n_WEIGHTED:PySem.W.nsIn K mainGlobals "WEIGHTED" = some (some (.ref pWEIGHTED2))) (pWEIGHTED2_l:K.lookup pWEIGHTED2=some ⟨.type "tuple", o_pWEIGHTED2,.seq #[.str "even" t6,.str "lack" t7] n_pWEIGHTED2,s_pWEIGHTED2⟩) (n_CONTRARY:PySem.W.nsIn K mainGlobals "CONTRARY" = some (some (.ref a_CONTRARY))) (aT:PyProof.Rows.KTD.tabLook (PyProof.Rows.KTD.datLooks fun a=>K.lookup a) (fun a=>K.lookup a) a_CONTRARY (zIs Lw.aT)=true):Ct K mg:=⟨⟨.int (0),_,PySem.W.mg_of X G n_ACROSS,⟨_,rfl⟩,(.int _)⟩,⟨.ref pHALF0,_,PySem.W.mg_of X G n_HALF,rfl,(.tup (.inr ⟨_,_,_,pHALF0_l,rfl,rfl,Nat.le_of_ble_eq_true rfl,(.cons (show cP (.int (1)) _ from ⟨_,rfl⟩) (.cons (show cP (.int (2)) _ from ⟨_,rfl⟩) .nil))⟩) (.cons (.int _) (.cons (.int _) .nil)))⟩,⟨.ref pNOUGHT1,_,PySem.W.mg_of X G n_NOUGHT,rfl,(.tup (.inr ⟨_,_,_,pNOUGHT1_l,rfl,rfl,Nat.le_of_ble_eq_true rfl,(.cons (show cP (.int (0)) _ from ⟨_,rfl⟩) (.cons (show cP (.int (1)) _ from ⟨_,rfl⟩) .nil))⟩) (.cons (.int _) (.cons (.int _) .nil)))⟩,⟨.int (1),_,PySem.W.mg_of X G n_UP,⟨_,rfl⟩,(.int _)⟩,⟨.ref pWEIGHTED2,_,PySem.W.mg_of X G n_WEIGHTED,rfl,(.tup (.inr ⟨_,_,_,pWEIGHTED2_l,rfl,rfl,Nat.le_of_ble_eq_true rfl,(.cons (show cP (.str "even") _ from ⟨_,rfl⟩) (.cons (show cP (.str "lack") _ from ⟨_,rfl⟩) .nil))⟩) (.cons (.str _) (.cons (.str _) .nil)))⟩,⟨a_CONTRARY,PySem.W.mg_of X G n_CONTRARY,fun h X=>PyProof.Rows.KTD.text_of_look X aT⟩⟩
theorem zNZ {K:PySem.W.Frag} {h:Heap} {mg:Str->Option Value} {C_BadClaim:Addr} {C_BadLine:Addr} {C_BadWay:Addr} {C_BadWeights:Addr} {C_NoFraction:Addr} (X:K.In h) (G:h.Ns mainGlobals mg) (n_BadClaim:PySem.W.nsIn K mainGlobals "BadClaim" = some (some (.ref C_BadClaim))) (x_BadClaim:PySem.W.excIn K C_BadClaim [.type "ValueError", .type "Exception", .type "BaseException", .type "object"] "ValueError.__new__" = true) (n_BadLine:PySem.W.nsIn K mainGlobals "BadLine" = some (some (.ref C_BadLine))) (x_BadLine:PySem.W.excIn K C_BadLine [.type "ValueError", .type "Exception", .type "BaseException", .type "object"] "ValueError.__new__" = true) (n_BadWay:PySem.W.nsIn K mainGlobals "BadWay" = some (some (.ref C_BadWay))) (x_BadWay:PySem.W.excIn K C_BadWay [.type "ValueError", .type "Exception", .type "BaseException", .type "object"] "ValueError.__new__" = true) (n_BadWeights:PySem.W.nsIn K mainGlobals "BadWeights" = some (some (.ref C_BadWeights))) (x_BadWeights:PySem.W.excIn K C_BadWeights [.type "ValueError", .type "Exception", .type "BaseException", .type "object"] "ValueError.__new__" = true) (n_NoFraction:PySem.W.nsIn K mainGlobals "NoFraction" = some (some (.ref C_NoFraction))) (x_NoFraction:PySem.W.excIn K C_NoFraction [.type "ValueError", .type "Exception", .type "BaseException", .type "object"] "ValueError.__new__" = true):Rt K mg:=⟨zAC X G n_BadClaim x_BadClaim PySem.F.excBase_ValueError,zAC X G n_BadLine x_BadLine PySem.F.excBase_ValueError,zAC X G n_BadWay x_BadWay PySem.F.excBase_ValueError,zAC X G n_BadWeights x_BadWeights PySem.F.excBase_ValueError,zAC X G n_NoFraction x_NoFraction PySem.F.excBase_ValueError⟩
theorem zOP {K:PySem.W.Frag} {h:Heap} {mg:Str->Option Value} (X:K.In h) (G:h.Ns mainGlobals mg):Et K mg:=⟨⟩
section
variable {P:Program} {w:World} {K:PySem.W.Frag} {mg:Str->Option Value} {base:Heap} {k:Nat} {f:Addr} {fd:FuncData}
theorem oX (F:Fn K mg "common_divisor" gC ["one", "two"] f fd) (B:Bt mg) (KT:Kt K) (C:Ct K mg) (R:Rt K mg) (ET:Et K mg)  : CanM P w K mg base (k+1) "common_divisor" ["one", "two"] cW:=
  iA F bY fun W WR=>(aD (s_z 0 bY.nd (aV rC zDr rfl B.abs boot_abs (bO 0)))
 (aD (s_z 1 bY.nd (aV rC zDr rfl B.abs boot_abs (bO 1)))
 (aD (zFk W.own (tst (neA W.u) zFJ (aL 1) cC (bB _)) (aD (s_z 2 bY.nd (bH lD zAH (aL 0) (aL 1)))
 (aD (s_z 0 bY.nd (aL 1))
 (aH (s_z 1 bY.nd (aL 2))))))
 (aH (cD (aL 0))))))
theorem zHw (F:Fn K mg "whole" zBF ["number"] f fd) (B:Bt mg) (KT:Kt K) (C:Ct K mg) (R:Rt K mg) (ET:Et K mg)  : CanM P w K mg base (k+1) "whole" ["number"] bM:=
 iA F zHO fun W WR=>(aH (cD (dS (aA (aL 0) (aA cC aI bW) aJ))))
theorem zKz (F:Fn K mg "less" zFN ["one", "two"] f fd) (B:Bt mg) (KT:Kt K) (C:Ct K mg) (R:Rt K mg) (ET:Et K mg)  : CanM P w K mg base (k+1) "less" ["one", "two"] jA:=
 iA F zLk fun W WR=>(aH (cD (qF xA zHt (bH bR gG (fB 0) (fB 1)) (bH bR gG (fB 1) (fB 0)) (bB _))))
theorem zEz:RankDef gM:=⟨rfl,rfl,rfl,rfl,rfl,fun _ _ _=>⟨_,_,rfl,rfl,rfl⟩⟩
theorem zGW (F:Fn K mg "ranked" gM ["some"] f fd) (B:Bt mg) (KT:Kt K) (C:Ct K mg) (R:Rt K mg) (ET:Et K mg) {T:Addr} (hT:oF K mg T) (hB:BMn base mg):CanR P w K mg base (k+1) iG:=
 zKA F oA zEz hT hB B.sorted B.range B.len rfl fun cdv A outer s H E G W WR=>⟨(s_z 1 oA.nd cC),(iF W.own W.calm (iE (aL 0)) (g_z 2 oA.nd) bC (aH (s_z 1 oA.nd (bH bR gG (aL 1) (fB 2)))))⟩
theorem zG (F:Fn K mg "refuse_way" kZ ["way"] f fd) (B:Bt mg) (KT:Kt K) (C:Ct K mg) (R:Rt K mg) (ET:Et K mg)  : CanM P w K mg base (k+1) "refuse_way" ["way"] dJ:=
 iA F yT fun W WR=>(aH (iN (zIp C.CONTRARY.choose_spec rfl (aL 0) (by with_unfolding_all rfl)) (aH (iQ W WR R.BadWay rfl zHm)) bD))
theorem qX (F:Fn K mg "refuse_claims" gX ["claims"] f fd) (B:Bt mg) (KT:Kt K) (C:Ct K mg) (R:Rt K mg) (ET:Et K mg)  : CanM P w K mg base (k+1) "refuse_claims" ["claims"] dE:=
  iA F jZ fun W WR=>(aD (iN (tst (eqA W.u) yV (aV aN dH rfl B.len PySem.boot_len (bO 0)) cC (bB _)) (aH (iQ W WR R.BadClaim rfl zHm)) bD)
 (aH (iF W.own W.calm (iE (aL 0)) (g_z 1 jZ.nd) bC (aH (iN (tst xA zHt (aL 1) cC (bB _)) (aH (iQ W WR R.BadClaim rfl zHm)) bD)))))
theorem qB (F:Fn K mg "refuse_weights" gD ["way", "weights", "many"] f fd) (B:Bt mg) (KT:Kt K) (C:Ct K mg) (R:Rt K mg) (ET:Et K mg)  : CanM P w K mg base (k+1) "refuse_weights" ["way", "weights", "many"] bJ:=
  iA F fG fun W WR=>(aD (s_z 3 fG.nd (zMT (tst (inA W.u) zPX (aL 0) (bN rfl C.WEIGHTED) (by with_unfolding_all rfl)) (aL 2) cC))
 (aD (iN (tst (neA W.u) zFJ (aV aN dH rfl B.len PySem.boot_len (bO 1)) (aL 3) (bB _)) (aH (iQ W WR R.BadWeights rfl zHm)) bD)
 (aH (iF W.own W.calm (iE (aL 1)) (g_z 4 fG.nd) bC (aH (iN (PWd.pt (zHc (tst xA zHt (aL 4) cC (bB _)) (vG (tst zGM zNo (aL 4) (bH zEJ zMy cC cC) (bB _))))) (aH (iQ W WR R.BadWeights rfl zHm)) bD))))))
theorem vE (F:Fn K mg "_law_cell_at" jR ["script", "k"] f fd) (B:Bt mg) (KT:Kt K) (C:Ct K mg) (R:Rt K mg) (ET:Et K mg)  : CanM P w K mg base (k+1) "_law_cell_at" ["script", "k"] eU:=
  iA F vI fun W WR=>(aD (iN (tst xA zHt (aL 1) (aV aN dH rfl B.len PySem.boot_len (bO 0)) (bB _)) (aH (cD (oW (aL 0) 1))) bD)
 (aH (cD cC)))
theorem zBs (F:Fn K mg "_law_made" pF ["top", "bottom"] f fd) (B:Bt mg) (KT:Kt K) (C:Ct K mg) (R:Rt K mg) (ET:Et K mg)  : CanM P w K mg base (k+1) "_law_made" ["top", "bottom"] cA:=
  iA F dZ fun W WR=>(aD (s_z 2 dZ.nd (aV rC zDr rfl B.abs boot_abs (bO 0)))
 (aD (s_z 3 dZ.nd (aV rC zDr rfl B.abs boot_abs (bO 1)))
 (aD (zFk W.own (tst zGM zNo (aL 3) cC (bB _)) (aD (s_z 4 dZ.nd (bH lD zAH (aL 2) (aL 3)))
 (aD (s_z 2 dZ.nd (aL 3))
 (aH (s_z 3 dZ.nd (aL 4))))))
 (aD (iN (tst xA zHt (aL 1) cC (bB _)) (aH (s_z 2 dZ.nd (bH jG pJ cC (aL 2)))) bD)
 (aH (cD (dS (aA (bH mX zDQ (aL 0) (aL 2)) (aA (bH mX zDQ (aL 1) (aL 2)) aI bI) bI))))))))
theorem zBx (F:Fn K mg "_law_less" pT ["one", "two"] f fd) (B:Bt mg) (KT:Kt K) (C:Ct K mg) (R:Rt K mg) (ET:Et K mg)  : CanM P w K mg base (k+1) "_law_less" ["one", "two"] dA:=
 iA F zBq fun W WR=>(aH (cD (qF xA zHt (bH bR gG (fB 0) (fB 1)) (bH bR gG (fB 1) (fB 0)) (bB _))))
theorem wK (F:Fn K mg "_law_claims" kX ["cells", "plan"] f fd) (B:Bt mg) (KT:Kt K) (C:Ct K mg) (R:Rt K mg) (ET:Et K mg)  : CanM P w K mg base (k+1) "_law_claims" ["cells", "plan"] fX:=
  iA F gH fun W WR=>(aD (tT (i:=2) gH.nd rfl (Or.inl rfl) (eO aI))
 (aD (iF W.own W.calm (iE (aL 0)) (g_z 3 gH.nd) bC (aD (s_z 4 gH.nd (bH lD zAH (bH pD zEc (bH bR gG (aL 3) cC) cC) cC))
 (aH (zBg (i:=2) (pv 2) (cN aU jI (PEf.d (eO (aA (bH lD zAH (bH mX zDQ (aL 4) cC) cC) (aA (bH lD zAH (bH mX zDQ (aL 4) cC) cC) (aA (bH lD zAH (aL 3) (bH zEJ zMy cC cC)) aI bI) bI) bI))) (cN aU jI (PEf.d (eO (aA cC (aA cC (aA cC (aA cC aI bW) bW) bW) bW))) (bH lD zAH (aL 1) cC) (fun _ _=>rfl)) (fun _ _=>rfl))))))
 (aH (jU 2 (pv 2)))))
theorem zKe (F:Fn K mg "made" zEI ["top", "bottom"] f fd) (B:Bt mg) (KT:Kt K) (C:Ct K mg) (R:Rt K mg) (ET:Et K mg) (c_common_divisor:CanM P w K mg base k "common_divisor" ["one", "two"] cW):CanM P w K mg base (k+1) "made" ["top", "bottom"] iC:=
  iA F zBN fun W WR=>(aD (iN (tst (eqA W.u) yV (aL 1) cC (bB _)) (aH (iQ W WR R.NoFraction rfl zHm)) bD)
 (aD (s_z 2 zBN.nd (aG W c_common_divisor rfl (aA (aL 0) (bO 1) aJ)))
 (aD (iN (tst xA zHt (aL 1) cC (bB _)) (aH (s_z 2 zBN.nd (qE (aL 2)))) bD)
 (aH (cD (dS (aA (bH mX zDQ (aL 0) (aL 2)) (aA (bH mX zDQ (aL 1) (aL 2)) aI bI) bI)))))))
theorem zFK (F:Fn K mg "lesser" xZ ["one", "two"] f fd) (B:Bt mg) (KT:Kt K) (C:Ct K mg) (R:Rt K mg) (ET:Et K mg) (c_less:CanM P w K mg base k "less" ["one", "two"] jA):CanM P w K mg base (k+1) "lesser" ["one", "two"] jL:=
 iA F zFG fun W WR=>(aH (cD (zMT (tV (aG W c_less rfl (aA (aL 0) (bO 1) aJ))) (aL 0) (aL 1))))
theorem xW (F:Fn K mg "refuse_bad" kM ["points"] f fd) (B:Bt mg) (KT:Kt K) (C:Ct K mg) (R:Rt K mg) (ET:Et K mg) (c_less:CanM P w K mg base k "less" ["one", "two"] jA):CanM P w K mg base (k+1) "refuse_bad" ["points"] fS:=
  iA F gI fun W WR=>(aD (iN (tst (eqA W.u) yV (aV aN dH rfl B.len PySem.boot_len (bO 0)) cC (bB _)) (aH (iQ W WR R.BadLine rfl zHm)) bD)
 (aD (iN (tst (neA W.u) zFJ (fB 0) (dS (aA (bN rfl C.NOUGHT) (aA (bN rfl C.NOUGHT) aI aJ) aJ)) (bB _)) (aH (iQ W WR R.BadLine rfl zHm)) bD)
 (aH (iF W.own W.calm (zCt rfl B.range (aA cC (aA (aV aN dH rfl B.len PySem.boot_len (bO 0)) aI aO) bW)) (g_z 1 gI.nd) bC (aD (s_z 2 gI.nd (cN aU jI (aL 0) (bH jG pJ (aL 1) cC) (fun _ _=>rfl)))
 (aD (s_z 3 gI.nd (oW (aL 0) 1))
 (aD (iN (zDX (tV (aG W c_less rfl (aA (cN aU jI (aL 2) (bN rfl C.ACROSS) (fun _ _=>rfl)) (aA (cN aU jI (aL 3) (bN rfl C.ACROSS) (fun _ _=>rfl)) aI aK) aK)))) (aH (iQ W WR R.BadLine rfl zHm)) bD)
 (aH (iN (tV (aG W c_less rfl (aA (cN aU jI (aL 3) (bN rfl C.UP) (fun _ _=>rfl)) (aA (cN aU jI (aL 2) (bN rfl C.UP) (fun _ _=>rfl)) aI aK) aK))) (aH (iQ W WR R.BadLine rfl zHm)) bD)))))))))
theorem zGt (F:Fn K mg "looked" xD ["way", "weights", "claims"] f fd) (B:Bt mg) (KT:Kt K) (C:Ct K mg) (R:Rt K mg) (ET:Et K mg) (c_refuse_way:CanM P w K mg base k "refuse_way" ["way"] dJ) (c_refuse_claims:CanM P w K mg base k "refuse_claims" ["claims"] dE) (c_refuse_weights:CanM P w K mg base k "refuse_weights" ["way", "weights", "many"] bJ):CanM P w K mg base (k+1) "looked" ["way", "weights", "claims"] nM:=
  iA F zGu fun W WR=>(aD (wA (aG W c_refuse_way rfl (bO 0)))
 (aD (wA (aG W c_refuse_claims rfl (bO 2)))
 (aH (wA (aG W c_refuse_weights rfl (aA (aL 0) (aA (aL 1) (aA (aV aN dH rfl B.len PySem.boot_len (bO 2)) aI aO) aJ) aJ))))))
theorem sN (F:Fn K mg "contrary_way" iW ["way"] f fd) (B:Bt mg) (KT:Kt K) (C:Ct K mg) (R:Rt K mg) (ET:Et K mg) (c_refuse_way:CanM P w K mg base k "refuse_way" ["way"] dJ):CanM P w K mg base (k+1) "contrary_way" ["way"] cY:=
  iA F sT fun W WR=>(aD (wA (aG W c_refuse_way rfl (bO 0)))
 (aH (cD (zJs C.CONTRARY.choose_spec rfl (aL 0) (fun _ _=>rfl)))))
theorem xG (F:Fn K mg "row_joints" kJ ["claims"] f fd) (B:Bt mg) (KT:Kt K) (C:Ct K mg) (R:Rt K mg) (ET:Et K mg) (c_whole:CanM P w K mg base k "whole" ["number"] bM):CanM P w K mg base (k+1) "row_joints" ["claims"] eH:=
  iA F eY fun W WR=>(aD (s_z 1 eY.nd cC)
 (aD (tT (i:=2) eY.nd rfl (Or.inl rfl) (eO (aA (bN rfl C.NOUGHT) aI aJ)))
 (aD (iF W.own W.calm (iE (aL 0)) (g_z 3 eY.nd) bC (aD (zHL (i:=1) eY.nd rfl (Or.inl rfl) (aL 3) zJm zFD zCJ)
 (aH (zBg (i:=2) (pv 2) (aG W c_whole rfl (bO 1))))))
 (aH (jU 2 (pv 2))))))
theorem oJ (F:Fn K mg "without_doubles" fK ["joints"] f fd) (B:Bt mg) (KT:Kt K) (C:Ct K mg) (R:Rt K mg) (ET:Et K mg) (c_less:CanM P w K mg base k "less" ["one", "two"] jA):CanM P w K mg base (k+1) "without_doubles" ["joints"] cM:=
  iA F eP fun W WR=>(aD (tT (i:=1) eP.nd rfl (Or.inl rfl) (zDw (aL 0) zKb (zCk cC)))
 (aD (iF W.own W.calm (iE (aL 0)) (g_z 2 eP.nd) bC (aH (iN (PTd.frz (tV (aG W c_less rfl (aA (cN aU jI (aL 1) (qE cC) (fun _ _=>rfl)) (bO 2) aK)))) (aH (zBg (i:=1) (pv 1) (aL 2))) bD)))
 (aH (jU 1 (pv 1)))))
theorem zBE (F:Fn K mg "_law_plus" pA ["one", "two"] f fd) (B:Bt mg) (KT:Kt K) (C:Ct K mg) (R:Rt K mg) (ET:Et K mg) (c_law_made:CanM P w K mg base k "_law_made" ["top", "bottom"] cA):CanM P w K mg base (k+1) "_law_plus" ["one", "two"] dN:=
 iA F zCo fun W WR=>(aH (cD (aG W c_law_made rfl (aA (bH pD zEc (bH bR gG (fB 0) (fB 1)) (bH bR gG (fB 1) (fB 0))) (aA (bH bR gG (fB 0) (fB 1)) aI bI) bI))))
theorem zAo (F:Fn K mg "_law_minus" mV ["one", "two"] f fd) (B:Bt mg) (KT:Kt K) (C:Ct K mg) (R:Rt K mg) (ET:Et K mg) (c_law_made:CanM P w K mg base k "_law_made" ["top", "bottom"] cA):CanM P w K mg base (k+1) "_law_minus" ["one", "two"] bE:=
 iA F zAZ fun W WR=>(aH (cD (aG W c_law_made rfl (aA (bH jG pJ (bH bR gG (fB 0) (fB 1)) (bH bR gG (fB 1) (fB 0))) (aA (bH bR gG (fB 0) (fB 1)) aI bI) bI))))
theorem zAn (F:Fn K mg "_law_times" mG ["one", "two"] f fd) (B:Bt mg) (KT:Kt K) (C:Ct K mg) (R:Rt K mg) (ET:Et K mg) (c_law_made:CanM P w K mg base k "_law_made" ["top", "bottom"] cA):CanM P w K mg base (k+1) "_law_times" ["one", "two"] aZ:=
 iA F zR fun W WR=>(aH (cD (aG W c_law_made rfl (aA (bH bR gG (fB 0) (fB 1)) (aA (bH bR gG (fB 0) (fB 1)) aI bI) bI))))
theorem oI (F:Fn K mg "_law_is_fraction" fL ["found"] f fd) (B:Bt mg) (KT:Kt K) (C:Ct K mg) (R:Rt K mg) (ET:Et K mg) (c_law_made:CanM P w K mg base k "_law_made" ["top", "bottom"] cA):CanM P w K mg base (k+1) "_law_is_fraction" ["found"] cB:=
  iA F iL fun W WR=>(aD (iN (PWd.pt (zHc (zDX (tV (vY KT.tuple rfl B.isinstance (aL 0) (pH (v:=.ty "tuple") rfl B.tuple boot_tuple rfl)))) (vG (tst (neA W.u) zFJ (aV aN dH rfl B.len PySem.boot_len (bO 0)) cC (bB _))))) (aH (cD (pP mT fun _=>.bl _))) bD)
 (aD (iF W.own W.calm (iE (aL 0)) (g_z 1 iL.nd) bC (aH (iN (PWd.pt (zHc (zDX (tV (vY KT.int rfl B.isinstance (aL 1) (pH (v:=.ty "int") rfl B.int boot_int rfl)))) (vG (tV (vY KT.bool rfl B.isinstance (aL 1) (pH (v:=.ty "bool") rfl B.bool boot_bool rfl)))))) (aH (cD (pP mT fun _=>.bl _))) bD)))
 (aH (cD (zNc (qF zGM zNo (fB 0) cC (bB _)) (zMD (qF (eqA W.u) yV (aG W c_law_made rfl (aA (fB 0) (aA (fB 0) aI aK) aK)) (aL 0) (bB _))))))))
theorem zDS (F:Fn K mg "_law_min" tO ["one", "two"] f fd) (B:Bt mg) (KT:Kt K) (C:Ct K mg) (R:Rt K mg) (ET:Et K mg) (c_law_less:CanM P w K mg base k "_law_less" ["one", "two"] dA):CanM P w K mg base (k+1) "_law_min" ["one", "two"] kI:=
  iA F zEg fun W WR=>(aD (iN (tV (aG W c_law_less rfl (aA (aL 1) (bO 0) aJ))) (aH (cD (aL 1))) bD)
 (aH (cD (aL 0))))
theorem yQ (F:Fn K mg "_law_levels" lI ["weights", "claims"] f fd) (B:Bt mg) (KT:Kt K) (C:Ct K mg) (R:Rt K mg) (ET:Et K mg) (c_law_made:CanM P w K mg base k "_law_made" ["top", "bottom"] cA):CanM P w K mg base (k+1) "_law_levels" ["weights", "claims"] fU:=
  iA F eR fun W WR=>(aD (tT (i:=2) eR.nd rfl (Or.inl rfl) (eO (aA (dS (aA cC (aA cC aI bW) bW)) aI dY)))
 (aD (iF W.own W.calm (zDO rfl B.zip (aA (aL 0) (bO 1) aJ)) (zMQ W.calm (wU (g_z 3 eR.nd) (wU (g_z 4 eR.nd) zIZ)) (xV (xV zIT))) (zFz (rA bC (rA bC zFT))) (aD (s_z 5 eR.nd (aG W c_law_made rfl (aA (aL 4) (bO 3) aJ)))
 (aH (iN (PTd.frz (tst (zIW W.u) zGH (aL 5) (aL 2) (by with_unfolding_all rfl))) (aH (zBg (i:=2) (pv 2) (aL 5))) bD))))
 (aH (jU 2 (pv 2)))))
theorem zJF (F:Fn K mg "plus" zEO ["one", "two"] f fd) (B:Bt mg) (KT:Kt K) (C:Ct K mg) (R:Rt K mg) (ET:Et K mg) (c_made:CanM P w K mg base k "made" ["top", "bottom"] iC):CanM P w K mg base (k+1) "plus" ["one", "two"] lU:=
 iA F zKd fun W WR=>(aH (cD (aG W c_made rfl (aA (bH pD zEc (bH bR gG (fB 0) (fB 1)) (bH bR gG (fB 1) (fB 0))) (aA (bH bR gG (fB 0) (fB 1)) aI bI) bI))))
theorem zIf (F:Fn K mg "minus" zBQ ["one", "two"] f fd) (B:Bt mg) (KT:Kt K) (C:Ct K mg) (R:Rt K mg) (ET:Et K mg) (c_made:CanM P w K mg base k "made" ["top", "bottom"] iC):CanM P w K mg base (k+1) "minus" ["one", "two"] cI:=
 iA F zHN fun W WR=>(aH (cD (aG W c_made rfl (aA (bH jG pJ (bH bR gG (fB 0) (fB 1)) (bH bR gG (fB 1) (fB 0))) (aA (bH bR gG (fB 0) (fB 1)) aI bI) bI))))
theorem zHF (F:Fn K mg "times" zCc ["one", "two"] f fd) (B:Bt mg) (KT:Kt K) (C:Ct K mg) (R:Rt K mg) (ET:Et K mg) (c_made:CanM P w K mg base k "made" ["top", "bottom"] iC):CanM P w K mg base (k+1) "times" ["one", "two"] dL:=
 iA F zIj fun W WR=>(aH (cD (aG W c_made rfl (aA (bH bR gG (fB 0) (fB 1)) (aA (bH bR gG (fB 0) (fB 1)) aI bI) bI))))
theorem zKn (F:Fn K mg "over" zHa ["one", "two"] f fd) (B:Bt mg) (KT:Kt K) (C:Ct K mg) (R:Rt K mg) (ET:Et K mg) (c_made:CanM P w K mg base k "made" ["top", "bottom"] iC):CanM P w K mg base (k+1) "over" ["one", "two"] tL:=
 iA F zKs fun W WR=>(aH (cD (aG W c_made rfl (aA (bH bR gG (fB 0) (fB 1)) (aA (bH bR gG (fB 0) (fB 1)) aI bI) bI))))
theorem zAT (F:Fn K mg "levels_of" jS ["weights", "claims"] f fd) (B:Bt mg) (KT:Kt K) (C:Ct K mg) (R:Rt K mg) (ET:Et K mg) (c_made:CanM P w K mg base k "made" ["top", "bottom"] iC):CanM P w K mg base (k+1) "levels_of" ["weights", "claims"] dG:=
 iA F zAL fun W WR=>(aH (fZ (nJ (N:=["weights", "claims"]) W (by decide +kernel) rfl (sc:=aE jS) rfl rfl (by decide +kernel) (zDO rfl B.zip (aA (aL 1) (bO 0) aJ)) (fun C2 s2 H2 fp2 G W=>(aG W c_made rfl (aA (aL 2) (bO 3) aJ))))))
theorem xE (F:Fn K mg "_law_fewest" kU ["points"] f fd) (B:Bt mg) (KT:Kt K) (C:Ct K mg) (R:Rt K mg) (ET:Et K mg) (c_law_minus:CanM P w K mg base k "_law_minus" ["one", "two"] bE) (c_law_times:CanM P w K mg base k "_law_times" ["one", "two"] aZ):CanM P w K mg base (k+1) "_law_fewest" ["points"] gA:=
  iA F bT fun W WR=>(aD (tT (i:=1) bT.nd rfl (Or.inl rfl) (eO (aA (fB 0) aI aK)))
 (aD (iF W.own W.calm (zCt rfl B.range (aA cC (aA (aV aN dH rfl B.len PySem.boot_len (bO 0)) aI aO) bW)) (g_z 2 bT.nd) bC (aD (s_z 3 bT.nd (pP mT fun _=>.bl _))
 (aD (iN (tst xA zHt (bH pD zEc (aL 2) cC) (aV aN dH rfl B.len PySem.boot_len (bO 0)) (bB _)) (aD (s_z 4 bT.nd (aG W c_law_minus rfl (aA (tR (oW (aL 0) 2)) (aA (tR (cN aU jI (aL 0) (bH jG pJ (aL 2) cC) (fun _ _=>rfl))) aI aK) aK)))
 (aD (s_z 5 bT.nd (aG W c_law_minus rfl (aA (tR (oW (aL 0) 2)) (aA (tR (cN aU jI (aL 0) (bH jG pJ (aL 2) cC) (fun _ _=>rfl))) aI aK) aK)))
 (aD (s_z 6 bT.nd (aG W c_law_minus rfl (aA (tR (cN aU jI (aL 0) (bH pD zEc (aL 2) cC) (fun _ _=>rfl))) (aA (tR (oW (aL 0) 2)) aI aK) aK)))
 (aD (s_z 7 bT.nd (aG W c_law_minus rfl (aA (tR (cN aU jI (aL 0) (bH pD zEc (aL 2) cC) (fun _ _=>rfl))) (aA (tR (oW (aL 0) 2)) aI aK) aK)))
 (aH (s_z 3 bT.nd (qF (eqA W.u) yV (aG W c_law_times rfl (aA (aL 5) (bO 6) aJ)) (aG W c_law_times rfl (aA (aL 7) (bO 4) aJ)) (bB _)))))))) bD)
 (aH (iN (zDX (tV (aL 3))) (aH (zBg (i:=1) (pv 1) (oW (aL 0) 2))) bD)))))
 (aH (cD (sR jQ zGR rfl B.tuple boot_tuple (bO 1))))))
theorem zAr (F:Fn K mg "_law_value" mO ["line", "x"] f fd) (B:Bt mg) (KT:Kt K) (C:Ct K mg) (R:Rt K mg) (ET:Et K mg) (c_law_less:CanM P w K mg base k "_law_less" ["one", "two"] dA) (c_law_minus:CanM P w K mg base k "_law_minus" ["one", "two"] bE) (c_law_times:CanM P w K mg base k "_law_times" ["one", "two"] aZ) (c_law_plus:CanM P w K mg base k "_law_plus" ["one", "two"] dN):CanM P w K mg base (k+1) "_law_value" ["line", "x"] eE:=
  iA F fP fun W WR=>(aD (iF W.own W.calm (zFc rfl B.range (aA (aV aN dH rfl B.len PySem.boot_len (bO 0)) aI aO)) (g_z 2 fP.nd) bC (aD (iN (tst (eqA W.u) yV (tR (oW (aL 0) 2)) (aL 1) (bB _)) (aH (cD (tR (oW (aL 0) 2)))) bD)
 (aH (iN (PWd.pt (zJP (tst zGM zNo (aL 2) cC (bB _)) (zFf (tV (aG W c_law_less rfl (aA (aL 1) (aA (tR (oW (aL 0) 2)) aI aK) aJ)))))) (aD (s_z 3 fP.nd (aG W c_law_minus rfl (aA (tR (oW (aL 0) 2)) (aA (tR (cN aU jI (aL 0) (bH jG pJ (aL 2) cC) (fun _ _=>rfl))) aI aK) aK)))
 (aD (s_z 4 fP.nd (aG W c_law_minus rfl (aA (tR (oW (aL 0) 2)) (aA (tR (cN aU jI (aL 0) (bH jG pJ (aL 2) cC) (fun _ _=>rfl))) aI aK) aK)))
 (aD (s_z 5 fP.nd (aG W c_law_times rfl (aA (aG W c_law_minus rfl (aA (aL 1) (aA (tR (cN aU jI (aL 0) (bH jG pJ (aL 2) cC) (fun _ _=>rfl))) aI aK) aJ)) (aA (dS (aA (fB 3) (aA (fB 3) aI aK) aK)) aI dY) aO)))
 (aH (cD (aG W c_law_plus rfl (aA (tR (cN aU jI (aL 0) (bH jG pJ (aL 2) cC) (fun _ _=>rfl))) (aA (aG W c_law_times rfl (aA (aL 5) (bO 4) aJ)) aI aO) aK))))))) bD))))
 (aH (cD (tR (cN aU jI (aL 0) (qE cC) (fun _ _=>rfl))))))
theorem zBc (F:Fn K mg "_law_total" nD ["some"] f fd) (B:Bt mg) (KT:Kt K) (C:Ct K mg) (R:Rt K mg) (ET:Et K mg) (c_law_plus:CanM P w K mg base k "_law_plus" ["one", "two"] dN):CanM P w K mg base (k+1) "_law_total" ["some"] gW:=
  iA F iI fun W WR=>(aD (s_z 1 iI.nd (dS (aA cC (aA cC aI bW) bW)))
 (aD (iF W.own W.calm (iE (aL 0)) (g_z 2 iI.nd) bC (aH (s_z 1 iI.nd (aG W c_law_plus rfl (aA (aL 1) (bO 2) aJ)))))
 (aH (cD (aL 1)))))
theorem uL (F:Fn K mg "_law_even_at" gK ["weights", "claims", "level"] f fd) (B:Bt mg) (KT:Kt K) (C:Ct K mg) (R:Rt K mg) (ET:Et K mg) (c_law_min:CanM P w K mg base k "_law_min" ["one", "two"] kI) (c_law_times:CanM P w K mg base k "_law_times" ["one", "two"] aZ):CanM P w K mg base (k+1) "_law_even_at" ["weights", "claims", "level"] eT:=
 iA F uA fun W WR=>(aH (fZ (nJ (N:=["weights", "claims", "level"]) W (by decide +kernel) rfl (sc:=aE gK) rfl rfl (by decide +kernel) (zDO rfl B.zip (aA (aL 0) (bO 1) aJ)) (fun C2 s2 H2 fp2 G W=>(aG W c_law_min rfl (aA (dS (aA (aL 4) (aA cC aI bW) aJ)) (aA (aG W c_law_times rfl (aA (dS (aA (aL 3) (aA cC aI bW) aJ)) (bO 2) dY)) aI aO) dY))))))
theorem xP (F:Fn K mg "is_between" kQ ["ahead", "point", "later"] f fd) (B:Bt mg) (KT:Kt K) (C:Ct K mg) (R:Rt K mg) (ET:Et K mg) (c_minus:CanM P w K mg base k "minus" ["one", "two"] cI) (c_times:CanM P w K mg base k "times" ["one", "two"] dL):CanM P w K mg base (k+1) "is_between" ["ahead", "point", "later"] fR:=
  iA F eQ fun W WR=>(aD (s_z 3 eQ.nd (aG W c_minus rfl (aA (cN aU jI (aL 1) (bN rfl C.UP) (fun _ _=>rfl)) (aA (cN aU jI (aL 0) (bN rfl C.UP) (fun _ _=>rfl)) aI aK) aK)))
 (aD (s_z 4 eQ.nd (aG W c_minus rfl (aA (cN aU jI (aL 2) (bN rfl C.UP) (fun _ _=>rfl)) (aA (cN aU jI (aL 1) (bN rfl C.UP) (fun _ _=>rfl)) aI aK) aK)))
 (aD (s_z 5 eQ.nd (aG W c_minus rfl (aA (cN aU jI (aL 1) (bN rfl C.ACROSS) (fun _ _=>rfl)) (aA (cN aU jI (aL 0) (bN rfl C.ACROSS) (fun _ _=>rfl)) aI aK) aK)))
 (aD (s_z 6 eQ.nd (aG W c_minus rfl (aA (cN aU jI (aL 2) (bN rfl C.ACROSS) (fun _ _=>rfl)) (aA (cN aU jI (aL 1) (bN rfl C.ACROSS) (fun _ _=>rfl)) aI aK) aK)))
 (aH (cD (qF (eqA W.u) yV (aG W c_times rfl (aA (aL 3) (bO 6) aJ)) (aG W c_times rfl (aA (aL 4) (bO 5) aJ)) (bB _))))))))
theorem zFZ (F:Fn K mg "turned" rH ["line"] f fd) (B:Bt mg) (KT:Kt K) (C:Ct K mg) (R:Rt K mg) (ET:Et K mg) (c_minus:CanM P w K mg base k "minus" ["one", "two"] cI):CanM P w K mg base (k+1) "turned" ["line"] lM:=
  iA F tM fun W WR=>(aD (s_z 1 tM.nd (cN aU jI (aL 0) (qE cC) (fun _ _=>rfl)))
 (aH (cD (sR jQ zGR rfl B.tuple boot_tuple (aA (PEf.d (gN W tM.nd rfl (sc:=aE rH) rfl rfl (by decide +kernel) (zOw rfl B.reversed (aL 0)) (fun C2 s2 H2 fp2 G W=>⟨lA,(dS (aA (aG W c_minus rfl (aA (cN aU jI (aL 1) (bN rfl C.ACROSS) (fun _ _=>rfl)) (aA (cN aU jI (aL 2) (bN rfl C.ACROSS) (fun _ _=>rfl)) aI aK) aK)) (aA (aG W c_minus rfl (aA (cN aU jI (aL 1) (bN rfl C.UP) (fun _ _=>rfl)) (aA (cN aU jI (aL 2) (bN rfl C.UP) (fun _ _=>rfl)) aI aK) aK)) aI aO) aO))⟩))) aI)))))
theorem zAu (F:Fn K mg "row_dealt" mD ["claims", "catch"] f fd) (B:Bt mg) (KT:Kt K) (C:Ct K mg) (R:Rt K mg) (ET:Et K mg) (c_lesser:CanM P w K mg base k "lesser" ["one", "two"] jL) (c_minus:CanM P w K mg base k "minus" ["one", "two"] cI) (c_whole:CanM P w K mg base k "whole" ["number"] bM):CanM P w K mg base (k+1) "row_dealt" ["claims", "catch"] fJ:=
  iA F eI fun W WR=>(aD (s_z 2 eI.nd (aL 1))
 (aD (tT (i:=3) eI.nd rfl (Or.inl rfl) (eO aI))
 (aD (iF W.own W.calm (iE (aL 0)) (g_z 4 eI.nd) bC (aD (s_z 5 eI.nd (aG W c_lesser rfl (aA (aL 2) (aA (aG W c_whole rfl (bO 4)) aI aO) aJ)))
 (aD (zBg (i:=3) (pv 3) (aL 5))
 (aH (s_z 2 eI.nd (aG W c_minus rfl (aA (aL 2) (bO 5) aJ)))))))
 (aH (jU 3 (pv 3))))))
theorem yR (F:Fn K mg "even_dealt" lF ["weights", "claims", "catch"] f fd) (B:Bt mg) (KT:Kt K) (C:Ct K mg) (R:Rt K mg) (ET:Et K mg) (c_ranked:CanR P w K mg base k iG) (c_levels_of:CanM P w K mg base k "levels_of" ["weights", "claims"] dG) (c_over:CanM P w K mg base k "over" ["one", "two"] tL) (c_lesser:CanM P w K mg base k "lesser" ["one", "two"] jL) (c_minus:CanM P w K mg base k "minus" ["one", "two"] cI) (c_times:CanM P w K mg base k "times" ["one", "two"] dL) (c_whole:CanM P w K mg base k "whole" ["number"] bM):CanM P w K mg base (k+1) "even_dealt" ["weights", "claims", "catch"] cO:=
  iA F cH fun W WR=>(aD (s_z 3 cH.nd (aL 2))
 (aD (s_z 4 cH.nd (aV (jV W.calm) sU rfl B.sum hZ (bO 0)))
 (aD (tT (i:=5) cH.nd rfl (Or.inl rfl) (zDe (eO (aA (bN rfl C.NOUGHT) aI aJ)) (aV aN dH rfl B.len PySem.boot_len (bO 1))))
 (zFV W c_ranked zNj zJu rfl (aA (PEf.d (cJ W c_levels_of rfl (aA (aL 0) (bO 1) aJ))) aI aO) (g_z 6 cH.nd) bC (aD (s_z 7 cH.nd (aG W c_over rfl (aA (aG W c_times rfl (aA (aL 3) (aA (aG W c_whole rfl (aA (oW (aL 0) 6) aI aK)) aI aO) aJ)) (aA (aG W c_whole rfl (bO 4)) aI aO) aO)))
 (aD (zOE (i:=5) (pv 5) (aL 6) (aG W c_lesser rfl (aA (aL 7) (aA (aG W c_whole rfl (aA (oW (aL 1) 6) aI aK)) aI aO) aJ)))
 (aD (s_z 3 cH.nd (PEd.frz (aG W c_minus rfl (aA (aL 3) (aA (oW (aL 5) 6) aI aK) aJ))))
 (aH (zHL (i:=4) cH.nd rfl (Or.inl rfl) (oW (aL 0) 6) zJz zGr zCE))))) (aH (jU 5 (pv 5)))))))
theorem yK (F:Fn K mg "part_dealt" iM ["claims", "catch"] f fd) (B:Bt mg) (KT:Kt K) (C:Ct K mg) (R:Rt K mg) (ET:Et K mg) (c_over:CanM P w K mg base k "over" ["one", "two"] tL) (c_whole:CanM P w K mg base k "whole" ["number"] bM) (c_times:CanM P w K mg base k "times" ["one", "two"] dL):CanM P w K mg base (k+1) "part_dealt" ["claims", "catch"] eK:=
  iA F gJ fun W WR=>(aD (s_z 2 gJ.nd (aV (jV W.calm) sU rfl B.sum hZ (bO 0)))
 (aD (iN (tst (eqA W.u) yV (aL 2) cC (bB _)) (aH (fZ (zDe (eO (aA (bN rfl C.NOUGHT) aI aJ)) (aV aN dH rfl B.len PySem.boot_len (bO 0))))) bD)
 (aD (s_z 3 gJ.nd (aG W c_over rfl (aA (aL 1) (aA (aG W c_whole rfl (bO 2)) aI aO) aJ)))
 (aH (fZ (gN W gJ.nd rfl (sc:=aE iM) rfl rfl (by decide +kernel) (iE (aL 0)) (fun C2 s2 H2 fp2 G W=>⟨lA,(aG W c_times rfl (aA (aL 3) (aA (aG W c_whole rfl (bO 4)) aI aO) aJ))⟩)))))))
theorem uP (F:Fn K mg "even_joints" jK ["weights", "claims"] f fd) (B:Bt mg) (KT:Kt K) (C:Ct K mg) (R:Rt K mg) (ET:Et K mg) (c_levels_of:CanM P w K mg base k "levels_of" ["weights", "claims"] dG) (c_ranked:CanR P w K mg base k iG) (c_plus:CanM P w K mg base k "plus" ["one", "two"] lU) (c_whole:CanM P w K mg base k "whole" ["number"] bM) (c_times:CanM P w K mg base k "times" ["one", "two"] dL):CanM P w K mg base (k+1) "even_joints" ["weights", "claims"] cU:=
  iA F bV fun W WR=>(aD (s_z 2 bV.nd cC)
 (aD (s_z 3 bV.nd (aV (jV W.calm) sU rfl B.sum hZ (bO 0)))
 (aD (s_z 4 bV.nd (PEf.d (cJ W c_levels_of rfl (aA (aL 0) (bO 1) aJ))))
 (aD (tT (i:=5) bV.nd rfl (Or.inl rfl) (eO (aA (bN rfl C.NOUGHT) aI aJ)))
 (zFV W c_ranked zNj zJu rfl (bO 4) (g_z 6 bV.nd) bC (aD (zBg (i:=5) (pv 5) (aG W c_plus rfl (aA (aG W c_whole rfl (bO 2)) (aA (aG W c_times rfl (aA (oW (aL 4) 6) (aA (aG W c_whole rfl (bO 3)) aI aO) aK)) aI aO) aO)))
 (aD (zHL (i:=2) bV.nd rfl (Or.inl rfl) (oW (aL 1) 6) zJm zFD zCJ)
 (aH (zHL (i:=3) bV.nd rfl (Or.inl rfl) (oW (aL 0) 6) zJz zGr zCE)))) (aH (jU 5 (pv 5))))))))
theorem zBG (F:Fn K mg "mirrored" lQ ["joints", "most"] f fd) (B:Bt mg) (KT:Kt K) (C:Ct K mg) (R:Rt K mg) (ET:Et K mg) (c_minus:CanM P w K mg base k "minus" ["one", "two"] cI):CanM P w K mg base (k+1) "mirrored" ["joints", "most"] fI:=
 iA F sP fun W WR=>(aH (fZ (gN W sP.nd rfl (sc:=aE lQ) rfl rfl (by decide +kernel) (zNd rfl B.reversed (aL 0)) (fun C2 s2 H2 fp2 G W=>⟨lA,(aG W c_minus rfl (aA (aL 1) (bO 2) aJ))⟩))))
theorem zCa (F:Fn K mg "_law_fine" pI ["found"] f fd) (B:Bt mg) (KT:Kt K) (C:Ct K mg) (R:Rt K mg) (ET:Et K mg) (c_law_fewest:CanM P w K mg base k "_law_fewest" ["points"] gA) (c_law_less:CanM P w K mg base k "_law_less" ["one", "two"] dA) (c_law_is_fraction:CanM P w K mg base k "_law_is_fraction" ["found"] cB):CanM P w K mg base (k+1) "_law_fine" ["found"] jH:=
  iA F mP fun W WR=>(aD (iN (PWd.pt (zHc (zDX (tV (vY KT.tuple rfl B.isinstance (aL 0) (pH (v:=.ty "tuple") rfl B.tuple boot_tuple rfl)))) (zHc (tst xA zHt (aV aN dH rfl B.len PySem.boot_len (bO 0)) cC (bB _)) (vG (tst (neA W.u) zFJ (fB 0) (dS (aA (dS (aA cC (aA cC aI bW) bW)) (aA (dS (aA cC (aA cC aI bW) bW)) aI dY) dY)) (bB _)))))) (aH (cD (pP mT fun _=>.bl _))) bD)
 (aD (iF W.own W.calm (iE (aL 0)) (g_z 1 mP.nd) bC (aD (iN (PWd.pt (zHc (zDX (tV (vY KT.tuple rfl B.isinstance (aL 1) (pH (v:=.ty "tuple") rfl B.tuple boot_tuple rfl)))) (vG (tst (neA W.u) zFJ (aV aN dH rfl B.len PySem.boot_len (bO 1)) cC (bB _))))) (aH (cD (pP mT fun _=>.bl _))) bD)
 (aH (iN (PWd.pt (zHc (zDX (tV (aG W c_law_is_fraction rfl (aA (fB 1) aI aK)))) (vG (zDX (tV (aG W c_law_is_fraction rfl (aA (fB 1) aI aK))))))) (aH (cD (pP mT fun _=>.bl _))) bD))))
 (aD (iF W.own W.calm (zCt rfl B.range (aA cC (aA (aV aN dH rfl B.len PySem.boot_len (bO 0)) aI aO) bW)) (g_z 2 mP.nd) bC (aH (iN (PWd.pt (zHc (zDX (tV (aG W c_law_less rfl (aA (tR (cN aU jI (aL 0) (bH jG pJ (aL 2) cC) (fun _ _=>rfl))) (aA (tR (oW (aL 0) 2)) aI aK) aK)))) (vG (tV (aG W c_law_less rfl (aA (tR (oW (aL 0) 2)) (aA (tR (cN aU jI (aL 0) (bH jG pJ (aL 2) cC) (fun _ _=>rfl))) aI aK) aK)))))) (aH (cD (pP mT fun _=>.bl _))) bD)))
 (aH (cD (qF (eqA W.u) yV (aL 0) (aG W c_law_fewest rfl (bO 0)) (bB _)))))))
theorem qU (F:Fn K mg "_law_low_right" dD ["found", "claims", "level", "xs"] f fd) (B:Bt mg) (KT:Kt K) (C:Ct K mg) (R:Rt K mg) (ET:Et K mg) (c_law_total:CanM P w K mg base k "_law_total" ["some"] gW) (c_law_times:CanM P w K mg base k "_law_times" ["one", "two"] aZ) (c_law_minus:CanM P w K mg base k "_law_minus" ["one", "two"] bE) (c_law_even_at:CanM P w K mg base k "_law_even_at" ["weights", "claims", "level"] eT) (c_law_value:CanM P w K mg base k "_law_value" ["line", "x"] eE):CanL P w K mg base (k+1) "_law_low_right" ["found", "claims", "level", "xs"] 3 dI:=
  zKY F cE rfl fun cdv A outer s H E G W=>(zLj (i:=4) cE.nd rfl (Or.inl rfl) (PCf.d (zDc W cE.nd rfl (sc:=aE dD) rfl rfl (by decide +kernel) (iE (PEf.d (cJ W c_law_even_at rfl (aA (PEf.d (gN W cE.nd rfl (sc:=aE dD) rfl rfl (by decide +kernel) (iE (aL 1)) (fun C2 s2 H2 fp2 G W=>⟨lA,cC⟩))) (aA (aL 1) (bO 2) aJ))))) (fun C2 s2 H2 fp2 G W=>⟨lA,(aG W c_law_times rfl (aA (dS (aA cC (aA cC aI bW) bW)) (bO 7) dY))⟩))) rfl (zLN (i:=5) cE.nd rfl (Or.inl rfl) (aG W c_law_total rfl (bO 4)) (zIV (pv 3) (aL 5) (zIV (pv 3) (aG W c_law_minus rfl (aA (dS (aA (aV (jV W.calm) sU rfl B.sum hZ (bO 1)) (aA cC aI bW) aO)) (bO 5) dY)) (zOq fun G W=>(aD (iF W.own W.calm (zFc rfl B.range (aA (aV aN dH rfl B.len PySem.boot_len (bO 1)) aI aO)) (g_z 6 cE.nd) bC (aD (iN (tst (neA W.u) zFJ (aG W c_law_value rfl (aA (oW (aL 0) 6) (bO 5) aK)) (oW (aL 4) 6) (bB _)) (aH (cD (pP mT fun _=>.bl _))) bD)
 (aH (iN (tst (neA W.u) zFJ (aG W c_law_value rfl (aA (oW (aL 0) 6) (aA (cN aU jI (aL 3) (qE cC) (fun _ _=>rfl)) aI aK) aK)) (aG W c_law_minus rfl (aA (dS (aA (oW (aL 1) 6) (aA cC aI bW) aK)) (aA (oW (aL 4) 6) aI aK) dY)) (bB _)) (aH (cD (pP mT fun _=>.bl _))) bD))))
 (aH (cD (pP mT fun _=>.bl _)))))))))
theorem zDI (F:Fn K mg "line_of" tG ["points"] f fd) (B:Bt mg) (KT:Kt K) (C:Ct K mg) (R:Rt K mg) (ET:Et K mg) (c_refuse_bad:CanM P w K mg base k "refuse_bad" ["points"] fS) (c_is_between:CanM P w K mg base k "is_between" ["ahead", "point", "later"] fR):CanM P w K mg base (k+1) "line_of" ["points"] lK:=
  iA F pL fun W WR=>(aD (wA (aG W c_refuse_bad rfl (bO 0)))
 (aD (tT (i:=1) pL.nd rfl (Or.inl rfl) (eO aI))
 (aD (iF W.own W.calm (iE (aL 0)) (g_z 2 pL.nd) bC (aD (iN (PTd.frz (PWd.pt (zJP (tst zGM zNo (aV aN dH rfl B.len PySem.boot_len (bO 1)) cC (bB _)) (zFf (tV (aG W c_is_between rfl (aA (cN aU jI (aL 1) (qE cC) (fun _ _=>rfl)) (aA (cN aU jI (aL 1) (qE cC) (fun _ _=>rfl)) (bO 2) aK) aK))))))) (aH (zOi (i:=1) (pv 1))) bD)
 (aH (zBg (i:=1) (pv 1) (aL 2)))))
 (aH (cD (sR jQ zGR rfl B.tuple boot_tuple (bO 1)))))))
theorem xY (F:Fn K mg "half_dealt" iK ["claims", "catch"] f fd) (B:Bt mg) (KT:Kt K) (C:Ct K mg) (R:Rt K mg) (ET:Et K mg) (c_times:CanM P w K mg base k "times" ["one", "two"] dL) (c_even_dealt:CanM P w K mg base k "even_dealt" ["weights", "claims", "catch"] cO) (c_plus:CanM P w K mg base k "plus" ["one", "two"] lU):CanM P w K mg base (k+1) "half_dealt" ["claims", "catch"] eG:=
  iA F jN fun W WR=>(aD (s_z 2 jN.nd (PEf.d (zDe (eO (aA cC aI bW)) (aV aN dH rfl B.len PySem.boot_len (bO 0)))))
 (aH (fZ (gN W jN.nd rfl (sc:=aE iK) rfl rfl (by decide +kernel) (iE (PEf.d (cJ W c_even_dealt rfl (aA (aL 2) (aA (aL 0) (aA (aG W c_plus rfl (aA (aL 1) (bO 1) aJ)) aI aO) aJ) aJ)))) (fun C2 s2 H2 fp2 G W=>⟨lA,(aG W c_times rfl (aA (aL 3) (aA (bN rfl C.HALF) aI aJ) aJ))⟩)))))
theorem sE (F:Fn K mg "_law_all_fine" iS ["found", "claims"] f fd) (B:Bt mg) (KT:Kt K) (C:Ct K mg) (R:Rt K mg) (ET:Et K mg) (c_law_fine:CanM P w K mg base k "_law_fine" ["found"] jH):CanM P w K mg base (k+1) "_law_all_fine" ["found", "claims"] dU:=
  iA F gQ fun W WR=>(aD (iN (PWd.pt (zHc (zDX (tV (vY KT.list rfl B.isinstance (aL 0) (pH (v:=.ty "list") rfl B.list boot_list rfl)))) (vG (tst (neA W.u) zFJ (aV aN dH rfl B.len PySem.boot_len (bO 0)) (aV aN dH rfl B.len PySem.boot_len (bO 1)) (bB _))))) (aH (cD (pP mT fun _=>.bl _))) bD)
 (aD (iF W.own W.calm (zDO rfl B.zip (aA (aL 0) (bO 1) aJ)) (zMQ W.calm (wU (g_z 2 gQ.nd) (wU (g_z 3 gQ.nd) zIZ)) (xV (xV zIT))) (zFz (rA bC (rA bC zFT))) (aH (iN (PWd.pt (zHc (zDX (tV (aG W c_law_fine rfl (bO 2)))) (vG (tst (neA W.u) zFJ (cN aU jI (aL 2) (qE cC) (fun _ _=>rfl)) (dS (aA (dS (aA (aV (jV W.calm) sU rfl B.sum hZ (bO 1)) (aA cC aI bW) aO)) (aA (dS (aA (aL 3) (aA cC aI bW) aJ)) aI dY) dY)) (bB _))))) (aH (cD (pP mT fun _=>.bl _))) bD)))
 (aH (cD (pP mT fun _=>.bl _)))))
theorem zEk (F:Fn K mg "line_at" nY ["joints", "dealings", "spot"] f fd) (B:Bt mg) (KT:Kt K) (C:Ct K mg) (R:Rt K mg) (ET:Et K mg) (c_line_of:CanM P w K mg base k "line_of" ["points"] lK):CanM P w K mg base (k+1) "line_at" ["joints", "dealings", "spot"] lE:=
 iA F zDV fun W WR=>(aH (cD (aG W c_line_of rfl (aA (PEf.d (nJ (N:=["joints", "dealings", "spot"]) W (by decide +kernel) rfl (sc:=aE nY) rfl rfl (by decide +kernel) (zDO rfl B.zip (aA (aL 0) (bO 1) aJ)) (fun C2 s2 H2 fp2 G W=>(dS (aA (aL 3) (aA (oW (aL 4) 2) aI aK) aJ))))) aI))))
theorem zAk {r:Mir} (F:Fn K mg "joints_of" gY ["way", "weights", "claims"] f fd) (B:Bt mg) (KT:Kt K) (C:Ct K mg) (R:Rt K mg) (ET:Et K mg) (c_whole:CanM P w K mg base k "whole" ["number"] bM) (c_mirrored:CanM P w K mg base k "mirrored" ["joints", "most"] fI) (c_row_joints:CanM P w K mg base k "row_joints" ["claims"] eH) (c_even_joints:CanM P w K mg base k "even_joints" ["weights", "claims"] cU) (c_times:CanM P w K mg base k "times" ["one", "two"] dL) (c_contrary_way:CanM P w K mg base k "contrary_way" ["way"] cY) (c_joints_of:CanM P w K mg base k "joints_of" ["way", "weights", "claims"] r):CanM P w K mg base (k+1) "joints_of" ["way", "weights", "claims"] (bQ r):=
  iA F fY fun W WR=>(aD (s_z 3 fY.nd (aG W c_whole rfl (aA (aV (jV W.calm) sU rfl B.sum hZ (bO 2)) aI aO)))
 (aD (iN (tst (eqA W.u) yV (aL 0) (pP lW fun _=>.str _) (bB _)) (aH (fZ (cJ W c_row_joints rfl (bO 2)))) bD)
 (aD (iN (tst (eqA W.u) yV (aL 0) (pP lW fun _=>.str _) (bB _)) (aH (fZ (cJ W c_even_joints rfl (aA (aL 1) (bO 2) aJ)))) bD)
 (aD (iN (tst (eqA W.u) yV (aL 0) (pP lW fun _=>.str _) (bB _)) (aH (fZ (eO (aA (bN rfl C.NOUGHT) (bO 3) aJ)))) bD)
 (aD (iN (tst (eqA W.u) yV (aL 0) (pP lW fun _=>.str _) (bB _)) (aD (zND (i:=4) fY.nd rfl (Or.inl rfl) (PCf.d (zDc W fY.nd rfl (sc:=aE gY) rfl rfl (by decide +kernel) (iE (PEf.d (cJ W c_even_joints rfl (aA (PEf.d (zDe (eO (aA cC aI bW)) (aV aN dH rfl B.len PySem.boot_len (bO 2)))) (bO 2) bI)))) (fun C2 s2 H2 fp2 G W=>⟨lA,(aG W c_times rfl (aA (aL 5) (aA (bN rfl C.HALF) aI aJ) aJ))⟩))) rfl)
 (aH (fZ (zMM (aL 4) (PEf.d (cJ W c_mirrored rfl (aA (aL 4) (bO 3) aJ))))))) bD)
 (aH (fZ (cJ W c_mirrored rfl (aA (PEf.d (cJ W c_joints_of rfl (aA (aG W c_contrary_way rfl (bO 0)) (aA (aL 1) (bO 2) aJ) aO))) (bO 3) aO)))))))))
theorem qJ (F:Fn K mg "joints_of" gY ["way", "weights", "claims"] f fd) (B:Bt mg) (KT:Kt K) (C:Ct K mg) (R:Rt K mg) (ET:Et K mg) (c_whole:CanM P w K mg base k "whole" ["number"] bM) (c_mirrored:CanM P w K mg base k "mirrored" ["joints", "most"] fI) (c_row_joints:CanM P w K mg base k "row_joints" ["claims"] eH) (c_even_joints:CanM P w K mg base k "even_joints" ["weights", "claims"] cU) (c_times:CanM P w K mg base k "times" ["one", "two"] dL) (c_contrary_way:CanM P w K mg base k "contrary_way" ["way"] cY):∀ n:Nat,CanM P w K mg base (k+1+n) "joints_of" ["way", "weights", "claims"] (bA n)
 | 0=>zBX F fY fun cdv A outer s H E G W WR=>zLX
 | n+1=>zAk (k:=k+1+n) F B KT C R ET (c_whole:=c_whole.mono (by omega)) (c_mirrored:=c_mirrored.mono (by omega)) (c_row_joints:=c_row_joints.mono (by omega)) (c_even_joints:=c_even_joints.mono (by omega)) (c_times:=c_times.mono (by omega)) (c_contrary_way:=c_contrary_way.mono (by omega)) (c_joints_of:=qJ F B KT C R ET (c_whole:=c_whole) (c_mirrored:=c_mirrored) (c_row_joints:=c_row_joints) (c_even_joints:=c_even_joints) (c_times:=c_times) (c_contrary_way:=c_contrary_way) n)
theorem qQ {r:Mir} (F:Fn K mg "rightly_dealt" dF ["way", "weights", "claims", "catch"] f fd) (B:Bt mg) (KT:Kt K) (C:Ct K mg) (R:Rt K mg) (ET:Et K mg) (c_whole:CanM P w K mg base k "whole" ["number"] bM) (c_row_dealt:CanM P w K mg base k "row_dealt" ["claims", "catch"] fJ) (c_even_dealt:CanM P w K mg base k "even_dealt" ["weights", "claims", "catch"] cO) (c_part_dealt:CanM P w K mg base k "part_dealt" ["claims", "catch"] eK) (c_half_dealt:CanM P w K mg base k "half_dealt" ["claims", "catch"] eG) (c_minus:CanM P w K mg base k "minus" ["one", "two"] cI) (c_less:CanM P w K mg base k "less" ["one", "two"] jA) (c_plus:CanM P w K mg base k "plus" ["one", "two"] lU) (c_rightly_dealt:CanM P w K mg base k "rightly_dealt" ["way", "weights", "claims", "catch"] r):CanM P w K mg base (k+1) "rightly_dealt" ["way", "weights", "claims", "catch"] (aQ r):=
  iA F dX fun W WR=>(aD (s_z 4 dX.nd (aG W c_whole rfl (aA (aV (jV W.calm) sU rfl B.sum hZ (bO 2)) aI aO)))
 (aD (iN (tst (eqA W.u) yV (aL 0) (pP lW fun _=>.str _) (bB _)) (aH (fZ (cJ W c_row_dealt rfl (aA (aL 2) (bO 3) aJ)))) bD)
 (aD (iN (tst (eqA W.u) yV (aL 0) (pP lW fun _=>.str _) (bB _)) (aH (fZ (cJ W c_even_dealt rfl (aA (aL 1) (aA (aL 2) (bO 3) aJ) aJ)))) bD)
 (aD (iN (tst (eqA W.u) yV (aL 0) (pP lW fun _=>.str _) (bB _)) (aH (fZ (cJ W c_part_dealt rfl (aA (aL 2) (bO 3) aJ)))) bD)
 (aD (iN (PWd.pt (zJP (tst (eqA W.u) yV (aL 0) (pP lW fun _=>.str _) (bB _)) (zFf (zDX (tV (aG W c_less rfl (aA (aL 4) (aA (aG W c_plus rfl (aA (aL 3) (bO 3) aJ)) aI aO) aJ))))))) (aH (fZ (cJ W c_half_dealt rfl (aA (aL 2) (bO 3) aJ)))) bD)
 (aD (s_z 5 dX.nd (PEf.d (cJ W c_rightly_dealt rfl (aA (zJs C.CONTRARY.choose_spec rfl (aL 0) (fun _ _=>rfl)) (aA (aL 1) (aA (aL 2) (aA (aG W c_minus rfl (aA (aL 4) (bO 3) aJ)) aI aO) aJ) aJ) aK))))
 (aH (fZ (nJ (N:=["way", "weights", "claims", "catch", "most", "lacking"]) W (by decide +kernel) rfl (sc:=aE dF) rfl rfl (by decide +kernel) (zDO rfl B.zip (aA (aL 2) (bO 5) aJ)) (fun C2 s2 H2 fp2 G W=>(aG W c_minus rfl (aA (aG W c_whole rfl (bO 6)) (bO 7) aO))))))))))))
theorem jY (F:Fn K mg "rightly_dealt" dF ["way", "weights", "claims", "catch"] f fd) (B:Bt mg) (KT:Kt K) (C:Ct K mg) (R:Rt K mg) (ET:Et K mg) (c_whole:CanM P w K mg base k "whole" ["number"] bM) (c_row_dealt:CanM P w K mg base k "row_dealt" ["claims", "catch"] fJ) (c_even_dealt:CanM P w K mg base k "even_dealt" ["weights", "claims", "catch"] cO) (c_part_dealt:CanM P w K mg base k "part_dealt" ["claims", "catch"] eK) (c_half_dealt:CanM P w K mg base k "half_dealt" ["claims", "catch"] eG) (c_minus:CanM P w K mg base k "minus" ["one", "two"] cI) (c_less:CanM P w K mg base k "less" ["one", "two"] jA) (c_plus:CanM P w K mg base k "plus" ["one", "two"] lU):∀ n:Nat,CanM P w K mg base (k+1+n) "rightly_dealt" ["way", "weights", "claims", "catch"] (aM n)
 | 0=>zBX F dX fun cdv A outer s H E G W WR=>zLX
 | n+1=>qQ (k:=k+1+n) F B KT C R ET (c_whole:=c_whole.mono (by omega)) (c_row_dealt:=c_row_dealt.mono (by omega)) (c_even_dealt:=c_even_dealt.mono (by omega)) (c_part_dealt:=c_part_dealt.mono (by omega)) (c_half_dealt:=c_half_dealt.mono (by omega)) (c_minus:=c_minus.mono (by omega)) (c_less:=c_less.mono (by omega)) (c_plus:=c_plus.mono (by omega)) (c_rightly_dealt:=jY F B KT C R ET (c_whole:=c_whole) (c_row_dealt:=c_row_dealt) (c_even_dealt:=c_even_dealt) (c_part_dealt:=c_part_dealt) (c_half_dealt:=c_half_dealt) (c_minus:=c_minus) (c_less:=c_less) (c_plus:=c_plus) n)
theorem zAl (F:Fn K mg "way_lines" hU ["way", "weights", "claims"] f fd) (B:Bt mg) (KT:Kt K) (C:Ct K mg) (R:Rt K mg) (ET:Et K mg) (c_looked:CanM P w K mg base k "looked" ["way", "weights", "claims"] nM) (c_without_doubles:CanM P w K mg base k "without_doubles" ["joints"] cM) (c_joints_of:CanM P w K mg base k "joints_of" ["way", "weights", "claims"] (bA 2)) (c_rightly_dealt:CanM P w K mg base k "rightly_dealt" ["way", "weights", "claims", "catch"] (aM 2)) (c_line_at:CanM P w K mg base k "line_at" ["joints", "dealings", "spot"] lE):CanM P w K mg base (k+1) "way_lines" ["way", "weights", "claims"] fH:=
  iA F fT fun W WR=>(aD (wA (aG W c_looked rfl (aA (aL 0) (aA (aL 1) (bO 2) aJ) aJ)))
 (aD (s_z 3 fT.nd (PEf.d (cJ W c_without_doubles rfl (aA (PEf.d (cJ W c_joints_of rfl (aA (aL 0) (aA (aL 1) (bO 2) aJ) aJ))) aI aO))))
 (aD (s_z 4 fT.nd (PEf.d (gN W fT.nd rfl (sc:=aE hU) rfl rfl (by decide +kernel) (iE (aL 3)) (fun C2 s2 H2 fp2 G W=>⟨lA,(PEf.d (cJ W c_rightly_dealt rfl (aA (aL 0) (aA (aL 1) (aA (aL 2) (bO 5) aJ) aJ) aJ)))⟩))))
 (aH (fZ (gN W fT.nd rfl (sc:=aE hU) rfl rfl (by decide +kernel) (zFc rfl B.range (aA (aV aN dH rfl B.len PySem.boot_len (bO 2)) aI aO)) (fun C2 s2 H2 fp2 G W=>⟨lA,(aG W c_line_at rfl (aA (aL 3) (aA (aL 4) (bO 5) aJ) aJ))⟩)))))))
theorem zMx (F:Fn K mg "law" oZ ["script"] f fd) (B:Bt mg) (KT:Kt K) (C:Ct K mg) (R:Rt K mg) (ET:Et K mg) (c_law_cell_at:CanM P w K mg base k "_law_cell_at" ["script", "k"] eU) (c_law_claims:CanM P w K mg base k "_law_claims" ["cells", "plan"] fX) (c_way_lines:CanM P w K mg base k "way_lines" ["way", "weights", "claims"] fH) (c_law_levels:CanM P w K mg base k "_law_levels" ["weights", "claims"] fU) (c_law_times:CanM P w K mg base k "_law_times" ["one", "two"] aZ) (c_law_all_fine:CanM P w K mg base k "_law_all_fine" ["found", "claims"] dU) (c_law_low_right:CanL P w K mg base k "_law_low_right" ["found", "claims", "level", "xs"] 3 dI) (c_law_plus:CanM P w K mg base k "_law_plus" ["one", "two"] dN) (c_turned:CanM P w K mg base k "turned" ["line"] lM):FnOk P w K mg base (CX1 P w) (k+1) f fd ["script"] (spM K mg 1 zKc):=
  zNf F gU fun cdv A outer s H E G W WR=>(aD (s_z 1 gU.nd (aG W c_law_cell_at rfl (aA (aL 0) (aA cC aI bW) aJ)))
 (aD (s_z 2 gU.nd (PEf.d (cJ W c_law_claims rfl (aA (PEf.d (zDw (aL 0) (zCk cC) (zCk cC))) (bO 1) aK))))
 (aD (iN (tst (eqA W.u) yV (aL 2) (PEf.d (eO aI)) (bB _)) (aH (s_z 2 gU.nd (PEf.d (eO (aA (bH lD zAH (aL 1) cC) aI bI))))) bD)
 (aD (s_z 3 gU.nd (PEf.d (zLv rfl B.list boot_list (bO 2))))
 (aD (s_z 4 gU.nd (PEf.d (cJ W c_way_lines rfl (aA (pP lW fun _=>.str _) (aA (PEf.d (eO aI)) (bO 3) zHx) bW))))
 (aD (iN (PWd.pt (zHc (tst (neA W.u) zFJ (aL 3) (aL 2) (bB _)) (vG (zDX (tV (aG W c_law_all_fine rfl (aA (aL 4) (bO 2) aJ))))))) (aH (cD (pP mT fun _=>.bl _))) bD)
 (aD (s_z 5 gU.nd (PEf.d (cJ W c_law_levels rfl (aA (PEf.d (gN W gU.nd rfl (sc:=aE oZ) rfl rfl (by decide +kernel) (iE (aL 2)) (fun C2 s2 H2 fp2 G W=>⟨lA,cC⟩))) (bO 2)))))
 (aD (tT (i:=6) gU.nd rfl (Or.inl rfl) (eO aI))
 (aD (iF W.own W.calm (iE (aL 5)) (g_z 7 gU.nd) bC (aH (zOO W c_law_low_right rfl (pv 4) (pv 2) (pv 7) (pv 6))))
 (dC.frzAt 6 (aD (iF W.own W.calm (zCt rfl B.range (aA cC (aA (aV aN dH rfl B.len PySem.boot_len (bO 5)) aI aO) bW)) (g_z 8 gU.nd) bC (aD (s_z 9 gU.nd (aG W c_law_times rfl (aA (dS (aA cC (aA cC aI bW) bW)) (aA (aG W c_law_plus rfl (aA (cN aU jI (aL 5) (bH jG pJ (aL 8) cC) (fun _ _=>rfl)) (aA (oW (aL 5) 8) aI aK) aK)) aI aO) dY)))
 (aH (zMe W c_law_low_right rfl (pv 4) (pv 2) (pv 9) (eO aI)))))
 (aD (iF W.own W.calm (iE (aL 4)) (g_z 10 gU.nd) bC (aH (iF W.own W.calm (iE (aL 10)) (g_z 11 gU.nd) bC (aH (iN (tst (zIW W.u) zGH (fB 11) (aL 6) (by with_unfolding_all rfl)) (aH (cD (pP mT fun _=>.bl _))) bD)))))
 (aH (cD (qF (eqA W.u) yV (PEf.d (gN W gU.nd rfl (sc:=aE oZ) rfl rfl (by decide +kernel) (iE (aL 4)) (fun C2 s2 H2 fp2 G W=>⟨lA,(aG W c_turned rfl (bO 12))⟩))) (aL 4) (bB _))))))))))))))))
end
end Lw
namespace Lw
open PySem PySem.Spec PyProof.Rows L2 L3
def FnK (K:PySem.W.Frag) (x:Str) (st:Stmt):Prop:=∃ f oc od sl kV dc pm an cd ct,PySem.W.nsIn K mainGlobals x=some (some (.ref f))/\K.lookup f=some ⟨oc,od,.func (PySem.W.fnOf x x (iV st) (dR st) (aE st) .none kV dc pm an cd ct),sl⟩/\PySem.W.codeIn K cd x=true/\PySem.W.keepIn K (.ref f)=true
theorem fk {K:PySem.W.Frag} {h:Heap} {mg:Str->Option Value} {x:Str} {st:Stmt} (X:K.In h) (G:h.Ns mainGlobals mg) (d:FnK K x st) (ps:List Str) (hb:∀ (kV doc pm:Value) (an:Option Addr) (cdv ct:Value) (us:List Value),us.length=ps.length->bindArgs (PySem.W.fnOf x x (iV st) (dR st) (aE st) .none kV doc pm an cdv ct) ⟨us,[]⟩=pure (ps.zip us)):∃ f fd,Fn K mg x st ps f fd:=by
 obtain ⟨f,oc,od,sl,kV,dc,pm,an,cd,ct,a,l,c,k⟩:=d
 exact ⟨f,_,wB (st:=st) l c k,(wB (st:=st) l c k).binds (ps:=ps) hb,k,PySem.W.mg_of X G a⟩
theorem fkm {K:PySem.W.Frag} {x:Str} {st:Stmt} {f:Addr} {oc:Value} {od an:Option Addr} {sl:Array (Option Value)} {kV dc pm cd ct:Value} (a:PySem.W.nsIn K mainGlobals x=some (some (.ref f))) (l:K.lookup f=some ⟨oc,od,.func (PySem.W.fnOf x x (iV st) (dR st) (aE st) .none kV dc pm an cd ct),sl⟩) (c:PySem.W.codeIn K cd x=true) (k:PySem.W.keepIn K (.ref f)=true):FnK K x st:=⟨f,oc,od,sl,kV,dc,pm,an,cd,ct,a,l,c,k⟩
theorem zLR {l:PySem.W.OpenLaw} {w:World} {K:PySem.W.Frag} {h:Heap} {mg:Str->Option Value} {fa f9 f49:Addr} (X:K.In h) (G:h.Ns mainGlobals mg) (hfa:mg "law" = some (.ref fa))
  {od9 an9:Option Addr} {sl9:Array (Option Value)} {oc9 kV9 dc9 pm9 ct9:Value}
  {od49 an49:Option Addr} {sl49:Array (Option Value)} {oc49 kV49 dc49 pm49 cd49 ct49:Value}
  (d0:FnK K "common_divisor" gC)
  (d1:FnK K "made" zEI)
  (d2:FnK K "whole" zBF)
  (d3:FnK K "plus" zEO)
  (d4:FnK K "minus" zBQ)
  (d5:FnK K "times" zCc)
  (d6:FnK K "over" zHa)
  (d7:FnK K "less" zFN)
  (d8:FnK K "lesser" xZ)
  {cR T:Addr}
  (a9:PySem.W.nsIn K mainGlobals "ranked" = some (some (.ref f9))) (l9:K.lookup f9=some ⟨oc9,od9,.func (PySem.W.fnOf "ranked" "ranked" (iV gM) (dR gM) (aE gM) .none kV9 dc9 pm9 an9 (.ref cR) ct9),sl9⟩) (c9:PySem.W.codeIn K (.ref cR) "ranked" = true) (k9:PySem.W.keepIn K (.ref f9)=true)
  (tq:PySem.W.codeHdIn K cR T=true) (tn:K.lookup T=none)
  (d10:FnK K "line_of" tG)
  (d11:FnK K "refuse_bad" kM)
  (d12:FnK K "is_between" kQ)
  (d13:FnK K "turned" rH)
  (d14:FnK K "looked" xD)
  (d15:FnK K "refuse_way" kZ)
  (d16:FnK K "refuse_claims" gX)
  (d17:FnK K "refuse_weights" gD)
  (d18:FnK K "contrary_way" iW)
  (d19:FnK K "rightly_dealt" dF)
  (d20:FnK K "row_dealt" mD)
  (d21:FnK K "even_dealt" lF)
  (d22:FnK K "levels_of" jS)
  (d23:FnK K "part_dealt" iM)
  (d24:FnK K "half_dealt" iK)
  (d25:FnK K "way_lines" hU)
  (d26:FnK K "line_at" nY)
  (d27:FnK K "joints_of" gY)
  (d28:FnK K "row_joints" kJ)
  (d29:FnK K "even_joints" jK)
  (d30:FnK K "mirrored" lQ)
  (d31:FnK K "without_doubles" fK)
  (d32:FnK K "_law_cell_at" jR)
  (d33:FnK K "_law_made" pF)
  (d34:FnK K "_law_plus" pA)
  (d35:FnK K "_law_minus" mV)
  (d36:FnK K "_law_times" mG)
  (d37:FnK K "_law_less" pT)
  (d38:FnK K "_law_is_fraction" fL)
  (d39:FnK K "_law_fewest" kU)
  (d40:FnK K "_law_value" mO)
  (d41:FnK K "_law_fine" pI)
  (d42:FnK K "_law_all_fine" iS)
  (d43:FnK K "_law_claims" kX)
  (d44:FnK K "_law_min" tO)
  (d45:FnK K "_law_total" nD)
  (d46:FnK K "_law_levels" lI)
  (d47:FnK K "_law_even_at" gK)
  (d48:FnK K "_law_low_right" dD)
  (a49:PySem.W.nsIn K mainGlobals "law" = some (some (.ref f49))) (l49:K.lookup f49=some ⟨oc49,od49,.func (PySem.W.fnOf "law" "law" (iV oZ) (dR oZ) (aE oZ) .none kV49 dc49 pm49 an49 cd49 ct49),sl49⟩) (c49:PySem.W.codeIn K cd49 "law" = true) (k49:PySem.W.keepIn K (.ref f49)=true)
  (z_abs:PySem.W.nsIn K mainGlobals "abs" = some none)
  (z_sorted:PySem.W.nsIn K mainGlobals "sorted" = some none)
  (z_range:PySem.W.nsIn K mainGlobals "range" = some none)
  (z_len:PySem.W.nsIn K mainGlobals "len" = some none)
  (z_tuple:PySem.W.nsIn K mainGlobals "tuple" = some none)
  (z_reversed:PySem.W.nsIn K mainGlobals "reversed" = some none)
  (z_sum:PySem.W.nsIn K mainGlobals "sum" = some none)
  (z_zip:PySem.W.nsIn K mainGlobals "zip" = some none)
  (z_isinstance:PySem.W.nsIn K mainGlobals "isinstance" = some none)
  (z_bool:PySem.W.nsIn K mainGlobals "bool" = some none)
  (z_int:PySem.W.nsIn K mainGlobals "int" = some none)
  (z_list:PySem.W.nsIn K mainGlobals "list" = some none)
  (KT:Kt K) (CC:∀ (h:Heap) (mg:Str->Option Value),K.In h->h.Ns mainGlobals mg->Ct K mg) (RR:∀ (h:Heap) (mg:Str->Option Value),K.In h->h.Ns mainGlobals mg->Rt K mg) (EE:∀ (h:Heap) (mg:Str->Option Value),K.In h->h.Ns mainGlobals mg->Et K mg)
  : K.lookup T=none/\oF K mg T/\∃ fd:FuncData,(∀ (s:Shared) (v:Value),BindsTo s fd ⟨[v],[]⟩ [("script", v)])/\∀ base:Heap,K.In base->base.Ns mainGlobals mg->BMn base mg->FnOk l.prog w K mg base (CX1 l.prog w) 10 fa fd ["script"] (zNB K mg):=by
 have e:=hfa.symm.trans (PySem.W.mg_of X G a49)
 cases e
 have B:Bt mg:=⟨PySem.W.mg_none_of X G z_abs,PySem.W.mg_none_of X G z_sorted,PySem.W.mg_none_of X G z_range,PySem.W.mg_none_of X G z_len,PySem.W.mg_none_of X G z_tuple,PySem.W.mg_none_of X G z_reversed,PySem.W.mg_none_of X G z_sum,PySem.W.mg_none_of X G z_zip,PySem.W.mg_none_of X G z_isinstance,PySem.W.mg_none_of X G z_bool,PySem.W.mg_none_of X G z_int,PySem.W.mg_none_of X G z_list⟩
 have C:Ct K mg:=CC h mg X G
 have R:Rt K mg:=RR h mg X G
 have ET:Et K mg:=EE h mg X G
 have hT:oF K mg T:=⟨f9,_,_,_,_,cR,PySem.W.mg_of X G a9,l9,rfl,fun h X=>PySem.W.codeHd_of_K X tq⟩
 refine ⟨tn,hT,?_⟩
 refine ⟨PySem.W.fnOf "law" "law" (iV oZ) (dR oZ) (aE oZ) .none kV49 dc49 pm49 an49 cd49 ct49,fun s v=>.of_eq rfl,fun base _ _ hB=>?_⟩
 obtain ⟨_,_,F0⟩:=fk X G d0 ["one", "two"] fun _ _ _ _ _ _ us hl=>by obtain ⟨_,_,rfl⟩:=L3.ln2 hl;rfl
 have c_common_divisor:=oX (P:=l.prog) (w:=w) (base:=base) (k:=0) F0 B KT C R ET
 obtain ⟨_,_,F2⟩:=fk X G d2 ["number"] fun _ _ _ _ _ _ us hl=>by obtain ⟨_,rfl⟩:=L3.ln1 hl;rfl
 have c_whole:=zHw (P:=l.prog) (w:=w) (base:=base) (k:=0) F2 B KT C R ET
 obtain ⟨_,_,F7⟩:=fk X G d7 ["one", "two"] fun _ _ _ _ _ _ us hl=>by obtain ⟨_,_,rfl⟩:=L3.ln2 hl;rfl
 have c_less:=zKz (P:=l.prog) (w:=w) (base:=base) (k:=0) F7 B KT C R ET
 have F9:Fn K mg "ranked" gM ["some"] _ _:=⟨wB (st:=gM) l9 c9 k9,(wB (st:=gM) l9 c9 k9).binds (ps:=["some"]) fun _ _ _ _ _ _ us hl=>by obtain ⟨_,rfl⟩:=L3.ln1 hl;rfl,k9,PySem.W.mg_of X G a9⟩
 have c_ranked:=zGW (P:=l.prog) (w:=w) (base:=base) (k:=0) F9 B KT C R ET hT hB
 obtain ⟨_,_,F15⟩:=fk X G d15 ["way"] fun _ _ _ _ _ _ us hl=>by obtain ⟨_,rfl⟩:=L3.ln1 hl;rfl
 have c_refuse_way:=zG (P:=l.prog) (w:=w) (base:=base) (k:=0) F15 B KT C R ET
 obtain ⟨_,_,F16⟩:=fk X G d16 ["claims"] fun _ _ _ _ _ _ us hl=>by obtain ⟨_,rfl⟩:=L3.ln1 hl;rfl
 have c_refuse_claims:=qX (P:=l.prog) (w:=w) (base:=base) (k:=0) F16 B KT C R ET
 obtain ⟨_,_,F17⟩:=fk X G d17 ["way", "weights", "many"] fun _ _ _ _ _ _ us hl=>by obtain ⟨_,_,_,rfl⟩:=L3.ln3 hl;rfl
 have c_refuse_weights:=qB (P:=l.prog) (w:=w) (base:=base) (k:=0) F17 B KT C R ET
 obtain ⟨_,_,F32⟩:=fk X G d32 ["script", "k"] fun _ _ _ _ _ _ us hl=>by obtain ⟨_,_,rfl⟩:=L3.ln2 hl;rfl
 have c_law_cell_at:=vE (P:=l.prog) (w:=w) (base:=base) (k:=0) F32 B KT C R ET
 obtain ⟨_,_,F33⟩:=fk X G d33 ["top", "bottom"] fun _ _ _ _ _ _ us hl=>by obtain ⟨_,_,rfl⟩:=L3.ln2 hl;rfl
 have c_law_made:=zBs (P:=l.prog) (w:=w) (base:=base) (k:=0) F33 B KT C R ET
 obtain ⟨_,_,F37⟩:=fk X G d37 ["one", "two"] fun _ _ _ _ _ _ us hl=>by obtain ⟨_,_,rfl⟩:=L3.ln2 hl;rfl
 have c_law_less:=zBx (P:=l.prog) (w:=w) (base:=base) (k:=0) F37 B KT C R ET
 obtain ⟨_,_,F43⟩:=fk X G d43 ["cells", "plan"] fun _ _ _ _ _ _ us hl=>by obtain ⟨_,_,rfl⟩:=L3.ln2 hl;rfl
 have c_law_claims:=wK (P:=l.prog) (w:=w) (base:=base) (k:=0) F43 B KT C R ET
 obtain ⟨_,_,F1⟩:=fk X G d1 ["top", "bottom"] fun _ _ _ _ _ _ us hl=>by obtain ⟨_,_,rfl⟩:=L3.ln2 hl;rfl
 have c_made:=zKe (P:=l.prog) (w:=w) (base:=base) (k:=1) F1 B KT C R ET (c_common_divisor:=c_common_divisor.mono (by decide))
 obtain ⟨_,_,F8⟩:=fk X G d8 ["one", "two"] fun _ _ _ _ _ _ us hl=>by obtain ⟨_,_,rfl⟩:=L3.ln2 hl;rfl
 have c_lesser:=zFK (P:=l.prog) (w:=w) (base:=base) (k:=1) F8 B KT C R ET (c_less:=c_less.mono (by decide))
 obtain ⟨_,_,F11⟩:=fk X G d11 ["points"] fun _ _ _ _ _ _ us hl=>by obtain ⟨_,rfl⟩:=L3.ln1 hl;rfl
 have c_refuse_bad:=xW (P:=l.prog) (w:=w) (base:=base) (k:=1) F11 B KT C R ET (c_less:=c_less.mono (by decide))
 obtain ⟨_,_,F14⟩:=fk X G d14 ["way", "weights", "claims"] fun _ _ _ _ _ _ us hl=>by obtain ⟨_,_,_,rfl⟩:=L3.ln3 hl;rfl
 have c_looked:=zGt (P:=l.prog) (w:=w) (base:=base) (k:=1) F14 B KT C R ET (c_refuse_way:=c_refuse_way.mono (by decide)) (c_refuse_claims:=c_refuse_claims.mono (by decide)) (c_refuse_weights:=c_refuse_weights.mono (by decide))
 obtain ⟨_,_,F18⟩:=fk X G d18 ["way"] fun _ _ _ _ _ _ us hl=>by obtain ⟨_,rfl⟩:=L3.ln1 hl;rfl
 have c_contrary_way:=sN (P:=l.prog) (w:=w) (base:=base) (k:=1) F18 B KT C R ET (c_refuse_way:=c_refuse_way.mono (by decide))
 obtain ⟨_,_,F28⟩:=fk X G d28 ["claims"] fun _ _ _ _ _ _ us hl=>by obtain ⟨_,rfl⟩:=L3.ln1 hl;rfl
 have c_row_joints:=xG (P:=l.prog) (w:=w) (base:=base) (k:=1) F28 B KT C R ET (c_whole:=c_whole.mono (by decide))
 obtain ⟨_,_,F31⟩:=fk X G d31 ["joints"] fun _ _ _ _ _ _ us hl=>by obtain ⟨_,rfl⟩:=L3.ln1 hl;rfl
 have c_without_doubles:=oJ (P:=l.prog) (w:=w) (base:=base) (k:=1) F31 B KT C R ET (c_less:=c_less.mono (by decide))
 obtain ⟨_,_,F34⟩:=fk X G d34 ["one", "two"] fun _ _ _ _ _ _ us hl=>by obtain ⟨_,_,rfl⟩:=L3.ln2 hl;rfl
 have c_law_plus:=zBE (P:=l.prog) (w:=w) (base:=base) (k:=1) F34 B KT C R ET (c_law_made:=c_law_made.mono (by decide))
 obtain ⟨_,_,F35⟩:=fk X G d35 ["one", "two"] fun _ _ _ _ _ _ us hl=>by obtain ⟨_,_,rfl⟩:=L3.ln2 hl;rfl
 have c_law_minus:=zAo (P:=l.prog) (w:=w) (base:=base) (k:=1) F35 B KT C R ET (c_law_made:=c_law_made.mono (by decide))
 obtain ⟨_,_,F36⟩:=fk X G d36 ["one", "two"] fun _ _ _ _ _ _ us hl=>by obtain ⟨_,_,rfl⟩:=L3.ln2 hl;rfl
 have c_law_times:=zAn (P:=l.prog) (w:=w) (base:=base) (k:=1) F36 B KT C R ET (c_law_made:=c_law_made.mono (by decide))
 obtain ⟨_,_,F38⟩:=fk X G d38 ["found"] fun _ _ _ _ _ _ us hl=>by obtain ⟨_,rfl⟩:=L3.ln1 hl;rfl
 have c_law_is_fraction:=oI (P:=l.prog) (w:=w) (base:=base) (k:=1) F38 B KT C R ET (c_law_made:=c_law_made.mono (by decide))
 obtain ⟨_,_,F44⟩:=fk X G d44 ["one", "two"] fun _ _ _ _ _ _ us hl=>by obtain ⟨_,_,rfl⟩:=L3.ln2 hl;rfl
 have c_law_min:=zDS (P:=l.prog) (w:=w) (base:=base) (k:=1) F44 B KT C R ET (c_law_less:=c_law_less.mono (by decide))
 obtain ⟨_,_,F46⟩:=fk X G d46 ["weights", "claims"] fun _ _ _ _ _ _ us hl=>by obtain ⟨_,_,rfl⟩:=L3.ln2 hl;rfl
 have c_law_levels:=yQ (P:=l.prog) (w:=w) (base:=base) (k:=1) F46 B KT C R ET (c_law_made:=c_law_made.mono (by decide))
 obtain ⟨_,_,F3⟩:=fk X G d3 ["one", "two"] fun _ _ _ _ _ _ us hl=>by obtain ⟨_,_,rfl⟩:=L3.ln2 hl;rfl
 have c_plus:=zJF (P:=l.prog) (w:=w) (base:=base) (k:=2) F3 B KT C R ET (c_made:=c_made.mono (by decide))
 obtain ⟨_,_,F4⟩:=fk X G d4 ["one", "two"] fun _ _ _ _ _ _ us hl=>by obtain ⟨_,_,rfl⟩:=L3.ln2 hl;rfl
 have c_minus:=zIf (P:=l.prog) (w:=w) (base:=base) (k:=2) F4 B KT C R ET (c_made:=c_made.mono (by decide))
 obtain ⟨_,_,F5⟩:=fk X G d5 ["one", "two"] fun _ _ _ _ _ _ us hl=>by obtain ⟨_,_,rfl⟩:=L3.ln2 hl;rfl
 have c_times:=zHF (P:=l.prog) (w:=w) (base:=base) (k:=2) F5 B KT C R ET (c_made:=c_made.mono (by decide))
 obtain ⟨_,_,F6⟩:=fk X G d6 ["one", "two"] fun _ _ _ _ _ _ us hl=>by obtain ⟨_,_,rfl⟩:=L3.ln2 hl;rfl
 have c_over:=zKn (P:=l.prog) (w:=w) (base:=base) (k:=2) F6 B KT C R ET (c_made:=c_made.mono (by decide))
 obtain ⟨_,_,F22⟩:=fk X G d22 ["weights", "claims"] fun _ _ _ _ _ _ us hl=>by obtain ⟨_,_,rfl⟩:=L3.ln2 hl;rfl
 have c_levels_of:=zAT (P:=l.prog) (w:=w) (base:=base) (k:=2) F22 B KT C R ET (c_made:=c_made.mono (by decide))
 obtain ⟨_,_,F39⟩:=fk X G d39 ["points"] fun _ _ _ _ _ _ us hl=>by obtain ⟨_,rfl⟩:=L3.ln1 hl;rfl
 have c_law_fewest:=xE (P:=l.prog) (w:=w) (base:=base) (k:=2) F39 B KT C R ET (c_law_minus:=c_law_minus.mono (by decide)) (c_law_times:=c_law_times.mono (by decide))
 obtain ⟨_,_,F40⟩:=fk X G d40 ["line", "x"] fun _ _ _ _ _ _ us hl=>by obtain ⟨_,_,rfl⟩:=L3.ln2 hl;rfl
 have c_law_value:=zAr (P:=l.prog) (w:=w) (base:=base) (k:=2) F40 B KT C R ET (c_law_less:=c_law_less.mono (by decide)) (c_law_minus:=c_law_minus.mono (by decide)) (c_law_times:=c_law_times.mono (by decide)) (c_law_plus:=c_law_plus.mono (by decide))
 obtain ⟨_,_,F45⟩:=fk X G d45 ["some"] fun _ _ _ _ _ _ us hl=>by obtain ⟨_,rfl⟩:=L3.ln1 hl;rfl
 have c_law_total:=zBc (P:=l.prog) (w:=w) (base:=base) (k:=2) F45 B KT C R ET (c_law_plus:=c_law_plus.mono (by decide))
 obtain ⟨_,_,F47⟩:=fk X G d47 ["weights", "claims", "level"] fun _ _ _ _ _ _ us hl=>by obtain ⟨_,_,_,rfl⟩:=L3.ln3 hl;rfl
 have c_law_even_at:=uL (P:=l.prog) (w:=w) (base:=base) (k:=2) F47 B KT C R ET (c_law_min:=c_law_min.mono (by decide)) (c_law_times:=c_law_times.mono (by decide))
 obtain ⟨_,_,F12⟩:=fk X G d12 ["ahead", "point", "later"] fun _ _ _ _ _ _ us hl=>by obtain ⟨_,_,_,rfl⟩:=L3.ln3 hl;rfl
 have c_is_between:=xP (P:=l.prog) (w:=w) (base:=base) (k:=3) F12 B KT C R ET (c_minus:=c_minus.mono (by decide)) (c_times:=c_times.mono (by decide))
 obtain ⟨_,_,F13⟩:=fk X G d13 ["line"] fun _ _ _ _ _ _ us hl=>by obtain ⟨_,rfl⟩:=L3.ln1 hl;rfl
 have c_turned:=zFZ (P:=l.prog) (w:=w) (base:=base) (k:=3) F13 B KT C R ET (c_minus:=c_minus.mono (by decide))
 obtain ⟨_,_,F20⟩:=fk X G d20 ["claims", "catch"] fun _ _ _ _ _ _ us hl=>by obtain ⟨_,_,rfl⟩:=L3.ln2 hl;rfl
 have c_row_dealt:=zAu (P:=l.prog) (w:=w) (base:=base) (k:=3) F20 B KT C R ET (c_lesser:=c_lesser.mono (by decide)) (c_minus:=c_minus.mono (by decide)) (c_whole:=c_whole.mono (by decide))
 obtain ⟨_,_,F21⟩:=fk X G d21 ["weights", "claims", "catch"] fun _ _ _ _ _ _ us hl=>by obtain ⟨_,_,_,rfl⟩:=L3.ln3 hl;rfl
 have c_even_dealt:=yR (P:=l.prog) (w:=w) (base:=base) (k:=3) F21 B KT C R ET (c_ranked:=c_ranked.mono (by decide)) (c_levels_of:=c_levels_of.mono (by decide)) (c_over:=c_over.mono (by decide)) (c_lesser:=c_lesser.mono (by decide)) (c_minus:=c_minus.mono (by decide)) (c_times:=c_times.mono (by decide)) (c_whole:=c_whole.mono (by decide))
 obtain ⟨_,_,F23⟩:=fk X G d23 ["claims", "catch"] fun _ _ _ _ _ _ us hl=>by obtain ⟨_,_,rfl⟩:=L3.ln2 hl;rfl
 have c_part_dealt:=yK (P:=l.prog) (w:=w) (base:=base) (k:=3) F23 B KT C R ET (c_over:=c_over.mono (by decide)) (c_whole:=c_whole.mono (by decide)) (c_times:=c_times.mono (by decide))
 obtain ⟨_,_,F29⟩:=fk X G d29 ["weights", "claims"] fun _ _ _ _ _ _ us hl=>by obtain ⟨_,_,rfl⟩:=L3.ln2 hl;rfl
 have c_even_joints:=uP (P:=l.prog) (w:=w) (base:=base) (k:=3) F29 B KT C R ET (c_levels_of:=c_levels_of.mono (by decide)) (c_ranked:=c_ranked.mono (by decide)) (c_plus:=c_plus.mono (by decide)) (c_whole:=c_whole.mono (by decide)) (c_times:=c_times.mono (by decide))
 obtain ⟨_,_,F30⟩:=fk X G d30 ["joints", "most"] fun _ _ _ _ _ _ us hl=>by obtain ⟨_,_,rfl⟩:=L3.ln2 hl;rfl
 have c_mirrored:=zBG (P:=l.prog) (w:=w) (base:=base) (k:=3) F30 B KT C R ET (c_minus:=c_minus.mono (by decide))
 obtain ⟨_,_,F41⟩:=fk X G d41 ["found"] fun _ _ _ _ _ _ us hl=>by obtain ⟨_,rfl⟩:=L3.ln1 hl;rfl
 have c_law_fine:=zCa (P:=l.prog) (w:=w) (base:=base) (k:=3) F41 B KT C R ET (c_law_fewest:=c_law_fewest.mono (by decide)) (c_law_less:=c_law_less.mono (by decide)) (c_law_is_fraction:=c_law_is_fraction.mono (by decide))
 obtain ⟨_,_,F48⟩:=fk X G d48 ["found", "claims", "level", "xs"] fun _ _ _ _ _ _ us hl=>by obtain ⟨_,_,_,_,rfl⟩:=L3.ln4 hl;rfl
 have c_law_low_right:=qU (P:=l.prog) (w:=w) (base:=base) (k:=3) F48 B KT C R ET (c_law_total:=c_law_total.mono (by decide)) (c_law_times:=c_law_times.mono (by decide)) (c_law_minus:=c_law_minus.mono (by decide)) (c_law_even_at:=c_law_even_at.mono (by decide)) (c_law_value:=c_law_value.mono (by decide))
 obtain ⟨_,_,F10⟩:=fk X G d10 ["points"] fun _ _ _ _ _ _ us hl=>by obtain ⟨_,rfl⟩:=L3.ln1 hl;rfl
 have c_line_of:=zDI (P:=l.prog) (w:=w) (base:=base) (k:=4) F10 B KT C R ET (c_refuse_bad:=c_refuse_bad.mono (by decide)) (c_is_between:=c_is_between.mono (by decide))
 obtain ⟨_,_,F24⟩:=fk X G d24 ["claims", "catch"] fun _ _ _ _ _ _ us hl=>by obtain ⟨_,_,rfl⟩:=L3.ln2 hl;rfl
 have c_half_dealt:=xY (P:=l.prog) (w:=w) (base:=base) (k:=4) F24 B KT C R ET (c_times:=c_times.mono (by decide)) (c_even_dealt:=c_even_dealt.mono (by decide)) (c_plus:=c_plus.mono (by decide))
 obtain ⟨_,_,F42⟩:=fk X G d42 ["found", "claims"] fun _ _ _ _ _ _ us hl=>by obtain ⟨_,_,rfl⟩:=L3.ln2 hl;rfl
 have c_law_all_fine:=sE (P:=l.prog) (w:=w) (base:=base) (k:=4) F42 B KT C R ET (c_law_fine:=c_law_fine.mono (by decide))
 obtain ⟨_,_,F26⟩:=fk X G d26 ["joints", "dealings", "spot"] fun _ _ _ _ _ _ us hl=>by obtain ⟨_,_,_,rfl⟩:=L3.ln3 hl;rfl
 have c_line_at:=zEk (P:=l.prog) (w:=w) (base:=base) (k:=5) F26 B KT C R ET (c_line_of:=c_line_of.mono (by decide))
 obtain ⟨_,_,F27⟩:=fk X G d27 ["way", "weights", "claims"] fun _ _ _ _ _ _ us hl=>by obtain ⟨_,_,_,rfl⟩:=L3.ln3 hl;rfl
 have c_joints_of:=qJ (P:=l.prog) (w:=w) (base:=base) (k:=4) F27 B KT C R ET (c_whole:=c_whole.mono (by decide)) (c_mirrored:=c_mirrored.mono (by decide)) (c_row_joints:=c_row_joints.mono (by decide)) (c_even_joints:=c_even_joints.mono (by decide)) (c_times:=c_times.mono (by decide)) (c_contrary_way:=c_contrary_way.mono (by decide)) 2
 obtain ⟨_,_,F19⟩:=fk X G d19 ["way", "weights", "claims", "catch"] fun _ _ _ _ _ _ us hl=>by obtain ⟨_,_,_,_,rfl⟩:=L3.ln4 hl;rfl
 have c_rightly_dealt:=jY (P:=l.prog) (w:=w) (base:=base) (k:=5) F19 B KT C R ET (c_whole:=c_whole.mono (by decide)) (c_row_dealt:=c_row_dealt.mono (by decide)) (c_even_dealt:=c_even_dealt.mono (by decide)) (c_part_dealt:=c_part_dealt.mono (by decide)) (c_half_dealt:=c_half_dealt.mono (by decide)) (c_minus:=c_minus.mono (by decide)) (c_less:=c_less.mono (by decide)) (c_plus:=c_plus.mono (by decide)) 2
 obtain ⟨_,_,F25⟩:=fk X G d25 ["way", "weights", "claims"] fun _ _ _ _ _ _ us hl=>by obtain ⟨_,_,_,rfl⟩:=L3.ln3 hl;rfl
 have c_way_lines:=zAl (P:=l.prog) (w:=w) (base:=base) (k:=8) F25 B KT C R ET (c_looked:=c_looked.mono (by decide)) (c_without_doubles:=c_without_doubles.mono (by decide)) (c_joints_of:=c_joints_of.mono (by decide)) (c_rightly_dealt:=c_rightly_dealt.mono (by decide)) (c_line_at:=c_line_at.mono (by decide))
 have F49:Fn K mg "law" oZ ["script"] _ _:=⟨wB (st:=oZ) l49 c49 k49,(wB (st:=oZ) l49 c49 k49).binds (ps:=["script"]) fun _ _ _ _ _ _ us hl=>by obtain ⟨_,rfl⟩:=L3.ln1 hl;rfl,k49,PySem.W.mg_of X G a49⟩
 have c_law:=zMx (P:=l.prog) (w:=w) (base:=base) (k:=9) F49 B KT C R ET (c_law_cell_at:=c_law_cell_at.mono (by decide)) (c_law_claims:=c_law_claims.mono (by decide)) (c_way_lines:=c_way_lines.mono (by decide)) (c_law_levels:=c_law_levels.mono (by decide)) (c_law_times:=c_law_times.mono (by decide)) (c_law_all_fine:=c_law_all_fine.mono (by decide)) (c_law_low_right:=c_law_low_right.mono (by decide)) (c_law_plus:=c_law_plus.mono (by decide)) (c_turned:=c_turned.mono (by decide))
 exact zLd c_law law_true
end Lw
open PySem PySem.W PyProof.Rows
local macro_rules | `(tactic| walk_at "fk")=>`(tactic| (refine' Lw.fkm ?a ?l ?c ?k;(case a=>k_is);(case l=>k_is);(case c=>k_is);(case k=>k_is)))
set_option maxRecDepth 100000 in
set_option maxHeartbeats 0 in
theorem PySem.Challenge.cw_catchhall_k21_half_and_half_lines_holds : PySem.Challenge.rw_catchhall_k21_half_and_half_lines.Holds := by
 w_on;o_law;k_head;(case hw=>w_witness2)
 k_fill
 refine L3.zON (l:=PySem.Challenge.rw_catchhall_k21_half_and_half_lines) (k:=10) rfl rfl ⟨rfl,by decide,by decide⟩ (fun w h Y=>PySem.W.km_in_of Y) (fun w h Y=>PySem.W.km_tabs_of Y _ (.head _)) ?F
 case F=>
  intro w mg fa h KX G hmg
  refine' Lw.zLR KX G hmg ?d0 ?d1 ?d2 ?d3 ?d4 ?d5 ?d6 ?d7 ?d8 ?a9 ?l9 ?c9 ?k9 ?tq ?tn ?d10 ?d11 ?d12 ?d13 ?d14 ?d15 ?d16 ?d17 ?d18 ?d19 ?d20 ?d21 ?d22 ?d23 ?d24 ?d25 ?d26 ?d27 ?d28 ?d29 ?d30 ?d31 ?d32 ?d33 ?d34 ?d35 ?d36 ?d37 ?d38 ?d39 ?d40 ?d41 ?d42 ?d43 ?d44 ?d45 ?d46 ?d47 ?d48 ?a49 ?l49 ?c49 ?k49 ?z_abs ?z_sorted ?z_range ?z_len ?z_tuple ?z_reversed ?z_sum ?z_zip ?z_isinstance ?z_bool ?z_int ?z_list ?KT ?CC ?RR ?EE
  (case a9=>k_is)
  (case l9=>k_is)
  (case c9=>k_is)
  (case k9=>k_is)
  (case tq=>first | k_is | kernel_rfl | kn_code | decide +kernel)
  (case tn=>first | k_is | kernel_rfl | kn_code | decide +kernel)
  (case a49=>k_is)
  (case l49=>k_is)
  (case c49=>k_is)
  (case k49=>k_is)
  (case d0=>walk_at "fk")
  (case d1=>walk_at "fk")
  (case d2=>walk_at "fk")
  (case d3=>walk_at "fk")
  (case d4=>walk_at "fk")
  (case d5=>walk_at "fk")
  (case d6=>walk_at "fk")
  (case d7=>walk_at "fk")
  (case d8=>walk_at "fk")
  (case d10=>walk_at "fk")
  (case d11=>walk_at "fk")
  (case d12=>walk_at "fk")
  (case d13=>walk_at "fk")
  (case d14=>walk_at "fk")
  (case d15=>walk_at "fk")
  (case d16=>walk_at "fk")
  (case d17=>walk_at "fk")
  (case d18=>walk_at "fk")
  (case d19=>walk_at "fk")
  (case d20=>walk_at "fk")
  (case d21=>walk_at "fk")
  (case d22=>walk_at "fk")
  (case d23=>walk_at "fk")
  (case d24=>walk_at "fk")
  (case d25=>walk_at "fk")
  (case d26=>walk_at "fk")
  (case d27=>walk_at "fk")
  (case d28=>walk_at "fk")
  (case d29=>walk_at "fk")
  (case d30=>walk_at "fk")
  (case d31=>walk_at "fk")
  (case d32=>walk_at "fk")
  (case d33=>walk_at "fk")
  (case d34=>walk_at "fk")
  (case d35=>walk_at "fk")
  (case d36=>walk_at "fk")
  (case d37=>walk_at "fk")
  (case d38=>walk_at "fk")
  (case d39=>walk_at "fk")
  (case d40=>walk_at "fk")
  (case d41=>walk_at "fk")
  (case d42=>walk_at "fk")
  (case d43=>walk_at "fk")
  (case d44=>walk_at "fk")
  (case d45=>walk_at "fk")
  (case d46=>walk_at "fk")
  (case d47=>walk_at "fk")
  (case d48=>walk_at "fk")
  (case z_abs=>k_is)
  (case z_sorted=>k_is)
  (case z_range=>k_is)
  (case z_len=>k_is)
  (case z_tuple=>k_is)
  (case z_reversed=>k_is)
  (case z_sum=>k_is)
  (case z_zip=>k_is)
  (case z_isinstance=>k_is)
  (case z_bool=>k_is)
  (case z_int=>k_is)
  (case z_list=>k_is)
  (case KT=>refine' ⟨⟨?t0_0,?t0_1,?t0_2,?t0_3,?t0_4,?t0_5⟩,⟨?t1_0,?t1_1,?t1_2,?t1_3,?t1_4,?t1_5⟩,⟨?t2_0,?t2_1,?t2_2,?t2_3,?t2_4,?t2_5⟩,⟨?t3_0,?t3_1,?t3_2,?t3_3,?t3_4,?t3_5⟩⟩<;>(first | kit_is | (show _=some true;kit_is) | (show _=some false;kit_is) | rfl | decide +kernel))
  (case CC=>
   intro h mg X G
   refine' Lw.zOj X G ?n_ACROSS ?n_HALF ?pHALF0_l ?n_NOUGHT ?pNOUGHT1_l ?n_UP ?n_WEIGHTED ?pWEIGHTED2_l ?n_CONTRARY ?aT<;>try first | k_is | kit_is | k_exc | rfl | decide +kernel | kernel_rfl)
  (case RR=>
   intro h mg X G
   refine' Lw.zNZ X G ?n_BadClaim ?x_BadClaim ?n_BadLine ?x_BadLine ?n_BadWay ?x_BadWay ?n_BadWeights ?x_BadWeights ?n_NoFraction ?x_NoFraction<;>try first | k_is | kit_is | k_exc | rfl | decide +kernel | kernel_rfl)
  (case EE=>
   intro h mg X G
   refine' Lw.zOP X G )
