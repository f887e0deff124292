import PyProof.Rows.All
import Wide.All
import OpenK.AllK
import Wide.FinOn
import Lean
import PyProof.EqAt
import PyProof.EqKinds
import PyProof.TupleCall
import PyProof.NeKinds
import KE.KRevIter
import PyProof.Rows.SumAny
import PySem.Challenge.RW_catchhall_k33_whole_amount_and_catch
noncomputable section
set_option Elab.async false
set_option linter.all false
set_option maxRecDepth 100000
def Qb:=@List.mem_cons_self
def Qc:=@List.mem_cons_of_mem
def Qd:=@Rat.le_refl
def Qe:=@List.mem_cons
def Qf:=@Rat.le_of_lt
def Qg:=@List.length_map
def Qh:=@Nat.le_refl
def Qi:=@List.mem_of_getElem?
def Qj:=@List.mem_range
def Qk:=@List.size_toArray
def Ql:=@List.length_append
def Qm:=@List.length_cons
def Qn:=@List.getElem?_eq_getElem
def Qo:=@Nat.lt_of_lt_of_le
def Qp:=@List.mem_map
def Qq:=@List.pairwise_cons
def Qr:=@Rat.le_trans
def Qs:=@Nat.ne_of_lt
def Qt:=@List.getElem?_map
def Qu:=@List.mem_singleton
def Qv:=@List.map_cons
def Qw:=@List.map_map
def Qx:=@List.getElem?_eq_some_iff
def Qy:=@List.getD_eq_getElem?_getD
def Qz:=@List.mem_append_right
def QA:=@List.length_range
def QB:=@Nat.le_trans
def QC:=@List.getElem?_eq_none
def QD:=@PySem.boot_len
def QE:=@List.sum_cons
def QF:=@List.mem_append
def QG:=@List.map_append
def QH:=@List.length_set
def QI:=@Rat.div_def
def QJ:=@Rat.intCast_mul
def QK:=@Option.some.inj
def QL:=@List.getElem?_set_ne
def QM:=@List.getElem?_append_left
def QN:=@Int.emod_nonneg
def QO:=@Int.emod_lt_of_pos
def QP:=@Rat.not_lt
def QR:=@List.getElem?_set_self
def QS:=@List.append_nil
def QT:=@Nat.lt_succ_self
def QU:=@List.getElem?_append_right
def QV:=@Int.le_trans
def QW:=@Int.toNat_natCast
def QX:=@Rat.intCast_add
def QY:=@Int.mul_one
def QZ:=@List.length_drop
def Q2:=@Nat.pow_le_pow_right
def Q3:=@Rat.mul_le_mul_of_nonneg_right
def Q4:=@List.length_reverse
def Q5:=@List.map_congr_left
def Q6:=@Rat.le_total
def Q7:=@Rat.div_mul_cancel
def Q8:=@PySem.W.mg_of
def Q9:=@List.append_assoc
def Va:=@Bool.and_eq_true
def Vb:=@List.getElem?_range
def Vc:=@List.take_length
def Vd:=@Nat.zero_le
def Ve:=@List.lookup_cons
def Vf:=@Int.natCast_nonneg
def Vg:=@PySem.W.mg_none_of
def Vh:=@Nat.lt_irrefl
def Vi:=@Rat.num_divInt_den
def Vj:=@Int.mul_ne_zero
def Vk:=@List.getLast?_eq_getElem?
def Vl:=@List.all_eq_true
def Vm:=@List.flatMap_cons
def Vn:=@Nat.le_of_lt
def Vo:=@List.map_nil
def Vp:=@Nat.lt_of_le_of_lt
def Vq:=@Rat.mul_inv_cancel
def Vr:=@Nat.lt_or_eq_of_le
def Vs:=@List.head?_eq_getElem?
def Vt:=@List.sum_append
def Vu:=@Rat.intCast_le_intCast
def Vv:=@List.flatMap_append
def Vw:=@List.mem_append_left
def Vx:=@PySem.mem_of_lookup
def Vy:=@List.replicate_succ
def Vz:=@List.nil_append
def VA:=@Rat.divInt_eq_div
def VB:=@List.pairwise_map
def VC:=@List.getLast?_map
def VD:=@Nat.lt_succ_of_lt
def VE:=@Rat.mul_le_mul_of_nonneg_left
def VF:=@PySem.F.excBase_ValueError
def VG:=@List.nodup_cons
def VH:=@List.length_replicate
def VI:=@List.flatten_cons
def VJ:=@Int.le_of_lt
def VL:=@Bool.or_eq_true
def VM:=@Bool.false_eq_true
def VN:=@Rat.le_of_mul_le_mul_right
def VO:=@Array.length_toList
def VP:=@PyProof.Rows.callWith_type1
def VQ:=@List.of_mem_zip
def VR:=@List.length_take
def VS:=@Nat.zero_add
def VT:=@List.drop_zero
def VU:=@Nat.min_eq_left
def VV:=@List.take_of_length_le
def VW:=@List.mem_iff_getElem?
def VX:=@List.Pairwise.imp_of_mem
def VY:=@Nat.sub_self
def VZ:=@List.ext_getElem?
def V0:=@List.not_mem_nil
def V3:=@Int.le_refl
def V4:=@Int.natCast_add
def V5:=@Int.add_mul
def V6:=@List.mem_of_mem_take
def V7:=@List.getLast?_cons_cons
def V8:=@Nat.succ_pos
def V9:=@Bool.false_ne_true
def Xa:=@Nat.le_total
def Xb:=@Int.pow_pos
def Xc:=@List.drop_eq_nil_of_le
def Xd:=@List.length_nil
def Xe:=@List.getLast?_cons
def Xf:=@List.head?_map
def Xg:=@List.filterMap_cons
def Xh:=@Nat.ne_of_gt
def Xi:=@List.getElem?_replicate
def Xj:=@Nat.min_eq_right
def Xk:=@List.pairwise_iff_getElem
def Xl:=@Nat.lt_trichotomy
def Xm:=@Nat.min_self
def Xn:=@Nat.succ.inj
def Xo:=@List.cons_append
def Xp:=@Int.mul_nonneg
def Xq:=@Int.mul_pos
def Xr:=@Rat.mul_nonneg
def Xs:=@List.take_succ_cons
def Xt:=@Classical.choose_spec
def Xu:=@List.pairwise_singleton
def Xv:=@List.flatMap_def
def Xw:=@PySem.W.hideAll_get
def Xx:=@List.mem_filterMap
def Xy:=@PySem.F.slot_tuple_add
def Xz:=@PySem.F.entry_tuple_add
def XA:=@PySem.F.args_tuple_add_2
def XB:=@List.foldl_cons
def XC:=@List.length_singleton
def XD:=@Array.getElem?_toList
def XF:=@Nat.add_comm
def XG:=@Int.eq_ofNat_of_zero_le
def XH:=@Int.gcd_dvd_left
def XI:=@Int.gcd_dvd_right
def XJ:=@Rat.divInt_mul_divInt
def XL:=@List.take_succ
def XM:=@Nat.succ_le_succ
def XN:=@Rat.mul_pos
def XO:=@Rat.inv_pos
def XQ:=@Rat.zero_divInt
def XR:=@Rat.zero_mul
def XS:=@Nat.lt_or_ge
def XT:=@List.mem_of_getLast?
def XU:=@Nat.eq_zero_or_pos
def XV:=@PySem.intBits_le_iff
def XW:=@List.eq_nil_of_length_eq_zero
def XX:=@PySem.F.plainAttrs_list
def XY:=@List.drop_eq_getElem_cons
def XZ:=@List.set_append_right
def X0:=@List.take_zero
def X1:=@List.range_succ
def X2:=@Nat.le_of_eq
def X3:=@List.length_zip
def X4:=@List.getElem?_reverse
def X5:=@Int.mul_comm
def X6:=@Int.mul_assoc
def X7:=@List.sum_nil
def X8:=@Int.add_assoc
def X9:=@List.getLast?_reverse
def Yc:=@List.pairwise_append
def Yd:=@List.mem_reverse
def Yf:=@List.getElem?_drop
def Yg:=@List.take_append_drop
def Yh:=@Int.pow_add
def Yi:=@List.range_eq_range'
def Yj:=@List.flatMap_nil
def Yk:=@Nat.le_of_ble_eq_true
def Ym:=@PySem.W.cellsFrom_some
def Yn:=@Int.neg_ediv_of_dvd
def Yo:=@Int.mul_le_mul_of_nonneg_right
def Yp:=@Int.fdiv_eq_ediv_of_nonneg
def Yq:=@Int.fmod_eq_emod_of_nonneg
def Yr:=@Array.getElem?_eq_some_iff
def Ys:=@PySem.F.plain_list_iadd
def Yt:=@List.toList_toArray
def Yu:=@List.mergeSort_perm
def Yv:=@List.pairwise_mergeSort
def Yw:=@List.getElem?_zip_eq_some
def Yy:=@Nat.lt_two_pow_self
def Yz:=@List.mem_of_mem_drop
def YA:=@Int.mul_le_mul_of_nonneg_left
namespace L2
open PySem PySem.Spec PyProof.Rows
abbrev Key:=Sum Int Str
def zOM:Key->Value->Bool
 | .inl k,v=>Value.isInt k v
 | .inr x,v=>Value.isStrOf x v
def zRV(w:World):Key->Int
 | .inl k=>hashInt k
 | .inr x=>hashStr w x
theorem dH:∀ {k:Key} {v:Value},zOM k v=true->(∃ i t,k=Sum.inl i/\v=Value.int i t)∨(∃ x t,k=Sum.inr x/\v=Value.str x t)
 | .inl i,v,h=>by
  obtain⟨t,e⟩:=Value.isInt_shape (k:=i) (v:=v) h;exact .inl ⟨i,t,rfl,e⟩
 | .inr x,v,h=>by
  obtain⟨t,e⟩:=Value.isStrOf_shape (x:=x) (v:=v) h;exact .inr ⟨x,t,rfl,e⟩
theorem zNU(a b:Int):decide ((Sum.inl a:Key)=Sum.inl b)=(a==b):=by
 by_cases e:a=b
 ·subst e;simp
 ·have h:¬ (Sum.inl a:Key)=Sum.inl b:=fun q=>e (Sum.inl.inj q)
  rw[decide_eq_false h];exact(beq_eq_false_iff_ne.mpr e).symm
theorem zOY(a b:Str):decide ((Sum.inr a:Key)=Sum.inr b)=decide (a=b):=by
 by_cases e:a=b
 ·subst e;simp
 ·have h:¬ (Sum.inr a:Key)=Sum.inr b:=fun q=>e (Sum.inr.inj q)
  rw[decide_eq_false h,decide_eq_false e]
theorem zOu(a:Int)(b:Str):decide ((Sum.inl a:Key)=Sum.inr b)=false:=decide_eq_false (fun q=>nomatch q)
theorem zPt(a:Str)(b:Int):decide ((Sum.inr a:Key)=Sum.inl b)=false:=decide_eq_false (fun q=>nomatch q)
def zHi(prog:Program)(w:World):PySem.KeyKind prog w Key where
 is:=zOM
 hash:=zRV w
 inj:=fun v a b ha hb=>by
  rcases dH ha with⟨i,t,rfl,rfl⟩ | ⟨x,t,rfl,rfl⟩
  ·rcases dH hb with⟨j,u,rfl,e⟩ | ⟨y,u,rfl,e⟩
   ·injection e with e1 _;rw[e1]
   ·exact nomatch e
  ·rcases dH hb with⟨j,u,rfl,e⟩ | ⟨y,u,rfl,e⟩
   ·exact nomatch e
   ·injection e with e1 _;rw[e1]
 byValue:=fun k v h=>by
  rcases dH h with⟨i,t,rfl,rfl⟩ | ⟨x,t,rfl,rfl⟩<;>rfl
 pyHash:=fun hv h=>by
  rcases dH hv with⟨i,t,rfl,rfl⟩ | ⟨x,t,rfl,rfl⟩
  ·exact wpAny_pyHash_int h
  ·exact wpAny_pyHash_str h
 eqBool:=fun hu hv h=>by
  rcases dH hu with⟨i,t,rfl,rfl⟩ | ⟨x,t,rfl,rfl⟩
  ·rcases dH hv with⟨j,u,rfl,rfl⟩ | ⟨y,u,rfl,rfl⟩
   ·rw[zNU] at h;exact wpAny_eqBool_int h
   ·rw[zOu] at h;exact SeqAt.EqAt.int_str i t y u _ _ _ _ h
  ·rcases dH hv with⟨j,u,rfl,rfl⟩ | ⟨y,u,rfl,rfl⟩
   ·rw[zPt] at h;exact SeqAt.EqAt.str_int x t j u _ _ _ _ h
   ·rw[zOY] at h;exact wpAny_eqBool_str h
 «strs» := fun k x t v h=>by
  rcases dH h with⟨i,u,rfl,e⟩ | ⟨y,u,rfl,e⟩
  ·exact nomatch e
  ·injection e with e1 _
   subst e1;cases v<;>rfl
inductive V where
 | non | bl (b:Bool) | int (i:Int) | str (x:Str) | byt (b:Array UInt8) | flt (b:UInt64) | ref (a:Addr) | ty (n:String)
 deriving DecidableEq
def dE:V->Value->Prop
 | .non,u=>u=Value.none
 | .bl b,u=>u=Value.bool b
 | .int i,u=>∃ t,u=Value.int i t
 | .str x,u=>∃ t,u=Value.str x t
 | .byt b,u=>∃ t,u=Value.bytes b t
 | .flt b,u=>∃ t,u=Value.float b t
 | .ref a,u=>u=Value.ref a
 | .ty n,u=>u=Value.type n
abbrev dR:List V->List Value->Prop:=Paired dE
theorem dR.length{xs:List V}{us:List Value}(r:dR xs us):xs.length=us.length:=Paired.length r
theorem dR.get:∀ {xs:List V} {us:List Value} {i:Nat} {x:V},dR xs us->xs[i]?=some x->∃ u,us[i]?=some u/\dE x u
 | _,_,_,_,.nil,e=>by simp at e
 | _,_,0,_,.cons r _,e=>by simp at e;subst e;exact⟨_,rfl,r⟩
 | _,_,i+1,x,.cons _ t,e=>by
  obtain⟨u,h1,h2⟩:=dR.get (i:=i) (x:=x) t (by simpa using e)
  exact⟨u,by simpa using h1,h2⟩
theorem dR.set{x:V}{u:Value}(r:dE x u):∀ {xs:List V} {us:List Value} (i:Nat),dR xs us->dR (xs.set i x) (us.set i u)
 | _,_,_,.nil=>.nil
 | _,_,0,.cons _ t=>.cons r t
 | _,_,i+1,.cons q t=>.cons q (dR.set r i t)
theorem dR.append:∀ {xs ys:List V} {us ws:List Value},dR xs us->dR ys ws->dR (xs++ys) (us++ws)
 | _,_,_,_,.nil,s=>s
 | _,_,_,_,.cons r t,s=>.cons r (dR.append t s)
theorem dR.take:∀ {xs:List V} {us:List Value} (n:Nat),dR xs us->dR (xs.take n) (us.take n)
 | _,_,0,_=>.nil
 | _,_,_+1,.nil=>.nil
 | _,_,n+1,.cons r t=>.cons r (dR.take n t)
theorem dR.drop:∀ {xs:List V} {us:List Value} (n:Nat),dR xs us->dR (xs.drop n) (us.drop n)
 | _,_,0,r=>r
 | _,_,_+1,.nil=>.nil
 | _,_,n+1,.cons _ t=>dR.drop n t
def zQX:Option V->Option Value->Prop
 | some v,some u=>dE v u
 | none,none=>True
 | _,_=>False
def KV{κ:Type}:List (κ×V)->List (κ×Value)->Prop:=Paired fun(p:κ×V) (q:κ×Value)=>p.1=q.1/\dE p.2 q.2
def kV:Key->V
 | .inl i=>.int i
 | .inr x=>.str x
inductive HO where
 | lst (xs:List V)
 | tup (xs:List V)
 | dK (kvs:List (Key×V)) | dT (kvs:List (List Key×V))
 | set (S:Int->Bool) (n:Nat)
 | ins (C dx:Addr) (fs:List (Str×V))
 | own (x:Addr)
 | xd (fs:List (Str×V))
 | met (f x:Addr)
 | rng (lo hi:Int)
 | frz (o:Obj) (u:HO)
 | tbl (ps:Array Value)
 | ext (φ:Heap->Prop)
abbrev Hp:=Addr->Option HO
def upd(H:Hp)(a:Addr)(o:HO):Hp:=fun b=>if b=a then some o else H b
theorem bB{H:Hp}{a:Addr}{o:HO}:upd H a o a=some o:=by unfold upd;rw[if_pos rfl]
theorem bA{H:Hp}{a b:Addr}{o:HO}(h:b≠a):upd H a o b=H b:=by unfold upd;rw[if_neg h]
theorem zPI{H:Hp}{a b:Addr}{o u:HO}(h:H a=some o)(h':H b=some u)(d:o≠u):a≠b:=by
 intro e;subst e;rw[h] at h';exact d (QK h')
theorem bE{H:Hp}{a b:Addr}{o:HO}(h:H a=some o)(h':H b=none):a≠b:=by
 intro e;subst e;rw[h] at h';cases h'
section
variable(P:Program)(w:World)
def lV(H:Hp)(h:Heap)(a:Addr):HO->Prop
 | .lst xs=>xs.length<=sizeLine/\∃(its:List Value)(n:Nat),dR xs its/\h.get? a=some { cls:=.type "list", data:=.seq its.toArray n }
 | .tup xs=>xs.length<=sizeLine/\∃ its:List Value,dR xs its/\IsTup h a its.toArray
 | .dK kvs=>kvs.length<=sizeLine/\(a==sysModules)=false/\∃ vs,KV kvs vs/\h.DictOf (zHi P w) a vs
 | .dT kvs=>kvs.length<=sizeLine/\(a==sysModules)=false/\∃ xs:List (List Key×Addr×Value),
   Paired (fun(p:List Key×V) (q:List Key×Addr×Value)=>p.1=q.1/\H q.2.1=some (.tup (p.1.map kV))/\dE p.2 q.2.2) kvs xs/\
   ∃ o es ep,h.get? a=some o/\o.ExactDict/\o.data=.dict es ep/\es.toList=xs.map (entryOfKey (tupleKind (zHi P w)))/\(xs.map (·.1)).Nodup
 | .set S n=>h.SetOf (intKind P w) a S n
 | .ins C dx fs=>H dx=some (.own a)/\fs.length<=1000/\dx≠a/\h.get? a=some (PySem.W.instObj C dx)/\
   ∃ mA,h.Ns1 dx mA/\(∀ f,zQX (fs.lookup f) (mA f))/\PySem.Within mA (fs.map (·.1))
 | .own _=>∃ o,h.get? a=some o
 | .xd fs=>∃ mA,h.Ns1 a mA/\∀ f,zQX (fs.lookup f) (mA f)
 | .rng lo hi=>∃ t u v,h.get? a=some { cls:=.type "range", data:=.fields #[.int lo t,.int hi u,.int 1 v] }
 | .frz o u=>h.get? a=some o/\lV H h a u
 | .tbl ps=>h.get? a=some { cls:=.none,data:=.fields ps }
 | .met f x=>h.get? a=some (PySem.W.methodObj (.ref f) (.ref x))
 | .ext φ=>φ h/\(∃ o,h.get? a=some o)/\∀ h1 h2:Heap,φ h1->(∀ o,h1.get? a=some o->h2.get? a=some o)->φ h2
def HOk(H:Hp)(h:Heap):Prop:=∀ a o,H a=some o->lV P w H h a o
end
section
variable{P:Program}{w:World}{H H':Hp}{h h':Heap}{a:Addr}{o:HO}
theorem lV.lt(x:lV P w H h a o):a < h.objs.size:=by
 cases o with
 | lst xs=>obtain⟨_,_,_,_,e⟩:=x;exact Heap.lt_size e
 | tup xs=>obtain⟨_,_,_,p⟩:=x;exact p.lt
 | dK kvs=>obtain⟨_,_,_,_,o,_,_,e,_⟩:=x;exact Heap.lt_size e
 | dT kvs=>obtain⟨_,_,_,_,o,_,_,e,_⟩:=x;exact Heap.lt_size e
 | set S n=>obtain⟨o,_,_,_,e,_⟩:=x;exact Heap.lt_size e
 | ins C dx fs=>obtain⟨_,_,_,e,_⟩:=x;exact Heap.lt_size e
 | own y=>obtain⟨_,e⟩:=x;exact Heap.lt_size e
 | xd fs=>obtain⟨_,⟨_,_,_,e,_⟩,_⟩:=x;exact Heap.lt_size e
 | rng lo hi=>obtain⟨_,_,_,e⟩:=x;exact Heap.lt_size e
 | frz ob u=>obtain⟨e,_⟩:=x;exact Heap.lt_size e
 | tbl ps=>exact Heap.lt_size (show h.get? a=some _ from x)
 | met f y=>exact Heap.lt_size (show h.get? a=some _ from x)
 | ext φ=>obtain⟨_,⟨_,e⟩,_⟩:=x;exact Heap.lt_size e
theorem Paired.mapP{α β:Type}{F G:α->β->Prop}:∀ {l₁:List α} {l₂:List β},Paired F l₁ l₂->(∀ a b,F a b->G a b)->Paired G l₁ l₂
 | _,_,.nil,_=>.nil
 | _,_,.cons r t,f=>.cons (f _ _ r) (Paired.mapP t f)
theorem lV.stay(x:lV P w H h a o)(k:∀ b u,(b=a∨H b=some (.own a))->h.get? b=some u->h'.get? b=some u)
  (ho:∀ b,H b=some (.own a)->H' b=some (.own a)) (ht:∀ b xs,H b=some (.tup xs)->H' b=some (.tup xs)):lV P w H' h' a o:=by
 induction o with
 | lst xs=>obtain⟨z,its,n,r,e⟩:=x;exact⟨z,its,n,r,k _ _ (.inl rfl) e⟩
 | tup xs=>obtain⟨z,its,r,ob,e,c⟩:=x;exact⟨z,its,r,ob,k _ _ (.inl rfl) e,c⟩
 | dK kvs=>obtain⟨z,y,vs,r,ob,es,ep,e,c⟩:=x;exact⟨z,y,vs,r,ob,es,ep,k _ _ (.inl rfl) e,c⟩
 | dT kvs=>
  obtain⟨z,y,xs,r,ob,es,ep,e,c⟩:=x;exact⟨z,y,xs,Paired.mapP r fun p q z=>⟨z.1,ht _ _ z.2.1,z.2.2⟩,ob,es,ep,k _ _ (.inl rfl) e,c⟩
 | set S n=>obtain⟨ob,es,ep,t,e,c⟩:=x;exact⟨ob,es,ep,t,k _ _ (.inl rfl) e,c⟩
 | ins C dx fs=>
  obtain⟨d,z,ne,e,mA,⟨od,es,ep,e2,c⟩,r⟩:=x;exact⟨ho _ d,z,ne,k _ _ (.inl rfl) e,mA,⟨od,es,ep,k _ _ (.inr d) e2,c⟩,r⟩
 | own y=>obtain⟨ob,e⟩:=x;exact⟨ob,k _ _ (.inl rfl) e⟩
 | xd fs=>obtain⟨mA,⟨od,es,ep,e,c⟩,r⟩:=x;exact⟨mA,⟨od,es,ep,k _ _ (.inl rfl) e,c⟩,r⟩
 | rng lo hi=>obtain⟨t,u,v,e⟩:=x;exact⟨t,u,v,k _ _ (.inl rfl) e⟩
 | frz ob u ih=>obtain⟨e,q⟩:=x;exact⟨k _ _ (.inl rfl) e,ih q⟩
 | tbl ps=>
  have e:h.get? a=some { cls:=.none,data:=.fields ps }:=x;show h'.get? a=some { cls:=.none,data:=.fields ps }
  exact k a _ (.inl rfl) e
 | met f y=>
  have e:h.get? a=some (PySem.W.methodObj (.ref f) (.ref y)):=x;show h'.get? a=some (PySem.W.methodObj (.ref f) (.ref y))
  exact k a _ (.inl rfl) e
 | ext φ=>obtain⟨p,⟨o,e⟩,st⟩:=x;exact⟨st _ _ p fun o q=>k _ _ (.inl rfl) q,⟨o,k _ _ (.inl rfl) e⟩,st⟩
theorem HOk.lt(x:HOk P w H h)(e:H a=some o):a < h.objs.size:=(x a o e).lt
theorem HOk.fresh(x:HOk P w H h)(e:h.objs.size<=a):H a=none:=by
 cases q:H a with
 | none=>rfl
 | some u=>exact absurd (Qo (x.lt q) e) (Vh _)
theorem HOk.kept(x:HOk P w H h)(k:∀ b u,h.get? b=some u->h'.get? b=some u):HOk P w H h':=fun a o e=>
 (x a o e).stay (fun b u _ q=>k b u q) (fun _ q=>q) fun _ _ q=>q
theorem HOk.laid(x:HOk P w H h)(k:∀ b u,h.get? b=some u->h'.get? b=some u)(hp:h.objs.size<=a)(new:lV P w (upd H a o) h' a o):HOk P w (upd H a o) h':=fun b u e=>by
 have hn:=x.fresh hp;by_cases hb:b=a
 ·subst hb;rw[bB] at e;cases e;exact new
 ·rw[bA hb] at e
  exact(x b u e).stay (fun c v _ q=>k c v q) (fun c q=>by rw[bA (bE q hn)];exact q) fun c xs q=>by rw[bA (bE q hn)];exact q
end
def Rd(H:Hp)(a:Addr)(u:HO):Prop:=H a=some u∨∃ o,H a=some (.frz o u)
theorem Rd.ok{P:Program}{w:World}{H:Hp}{h:Heap}{a:Addr}{u:HO}(r:Rd H a u)(x:HOk P w H h):lV P w H h a u:=by
 rcases r with r | ⟨o,r⟩
 ·exact x a u r
 ·obtain⟨_,q⟩:=x a _ r
  exact q
def Mut:Option HO->Prop
 | some (.lst _)=>True
 | some (.dK _)=>True
 | some (.dT _)=>True
 | some (.set _ _)=>True
 | some (.ins _ _ _)=>True
 | some (.ext _)=>True
 | _=>False
section
variable{P:Program}{w:World}{H:Hp}{h h':Heap}{x e:Addr}{o':HO}
theorem HOk.write(ok:HOk P w H h)(mu:Mut (H x))(he:e=x∨H e=some (.own x))(k:∀ b u,b≠e->h.get? b=some u->h'.get? b=some u)(heo:∃ u,h'.get? e=some u)
  (new:lV P w (upd H x o') h' x o'):HOk P w (upd H x o') h':=fun b u q=>by
 have nown:∀ c y,H c=some (.own y)->c≠x:=fun c y r z=>by subst z;rw[r] at mu;exact mu
 have ntup:∀ c xs,H c=some (.tup xs)->c≠x:=fun c xs r z=>by subst z;rw[r] at mu;exact mu
 by_cases hb:b=x
 ·subst hb;rw[bB] at q;cases q;exact new
 ·rw[bA hb] at q
  by_cases hbe:b=e
  ·have q':H b=some (.own x):=by
    rcases he with z | z
    ·exact absurd (hbe.trans z) hb
    ·rw[hbe];exact z
   rw[q] at q';cases q'
   obtain⟨v,hv⟩:=heo;exact⟨v,by rw[hbe];exact hv⟩
  ·refine(ok b u q).stay (fun c v hc r=>k c v ?_ r) (fun c r=>by rw[bA (nown c b r)];exact r) fun c xs r=>by rw[bA (ntup c xs r)];exact r
   rcases hc with rfl | hc
   ·exact hbe
   ·rintro rfl
    rcases he with z | z
    ·exact nown c b hc z
    ·rw[hc] at z;cases z;exact hb rfl
end
structure Un (fs ex:List Addr) (H H':Hp) (h h':Heap):Prop where
 keep:∀ b o,h.get? b=some o->H b=none->b∉fs->b∉ex->h'.get? b=some o
 slot:∀ b o,h.get? b=some o->H b=none->b∈fs->b∉ex->∃ sl,h'.get? b=some { o with slots:=sl }
 free:∀ b o,h.get? b=some o->H b=none->b∉ex->H' b=none
 there:∀ b o,h.get? b=some o->b∉ex->∃ o',h'.get? b=some o'
 tups:∀ b xs,H b=some (.tup xs)->H' b=some (.tup xs)
 frzs:∀ b o u,H b=some (.frz o u)->H' b=some (.frz o u)
 tbls:∀ b ps,H b=some (.tbl ps)->∃ more,H' b=some (.tbl (ps++more))
section
variable{fs fs' ex ex':List Addr}{H H1 H2:Hp}{h h1 h2 h':Heap}{a x e:Addr}{o:HO}
theorem Un.any(u:Un fs ex H H1 h h1){b:Addr}{ob:Obj}(q:h.get? b=some ob)(n:H b=none)(hx:b∉ex):∃ sl,h1.get? b=some { ob with slots:=sl }:=by
 by_cases hb:b∈fs
 ·exact u.slot b ob q n hb hx
 ·exact⟨ob.slots,u.keep b ob q n hb hx⟩
theorem Un.kept(k:∀ b u,h.get? b=some u->h'.get? b=some u):Un fs ex H H h h':=
 ⟨fun b ob q _ _ _=>k b ob q,fun b ob q _ _ _=>⟨ob.slots,k b ob q⟩,fun _ _ _ n _=>n,fun b ob q _=>⟨ob,k b ob q⟩,fun _ _ q=>q,fun _ _ _ q=>q,fun _ ps q=>⟨#[],by rw[q];simp⟩⟩
theorem Un.refl:Un fs ex H H h h:=Un.kept fun _ _ q=>q
theorem Un.laid(k:∀ b u,h.get? b=some u->h'.get? b=some u)(hp:h.objs.size<=a)(hn:H a=none):Un fs ex H (upd H a o) h h' where
 keep:=fun b u q _ _ _=>k b u q
 slot:=fun b u q _ _ _=>⟨u.slots,k b u q⟩
 free:=fun b u q n _=>by rw[bA (Qs (Qo (Heap.lt_size q) hp))];exact n
 there:=fun b u q _=>⟨u,k b u q⟩
 tups:=fun b xs q=>by rw[bA (bE q hn)];exact q
 frzs:=fun b u xs q=>by rw[bA (bE q hn)];exact q
 tbls:=fun b ps q=>⟨#[],by rw[bA (bE q hn),q];simp⟩
theorem Un.write(mu:Mut (H x))(he:e=x∨H e=some (.own x))(k:∀ b u,b≠e->h.get? b=some u->h'.get? b=some u)(heo:∃ u,h'.get? e=some u):Un fs ex H (upd H x o) h h':=by
 have hx:∀ b,H b=none->b≠x:=fun b n z=>by subst z;rw[n] at mu;exact mu
 have hb:∀ b,H b=none->b≠e:=fun b n z=>by
  subst z;rcases he with r | r
  ·exact hx b n r
  ·rw[n] at r;cases r
 have hm:∀ b u,H b=some u->¬ Mut (some u)->b≠x:=fun b u q nm z=>by subst z;rw[q] at mu;exact nm mu
 refine⟨fun b u q n _ _=>k b u (hb b n) q,fun b u q n _ _=>⟨u.slots,k b u (hb b n) q⟩,fun b u q n _=>by rw[bA (hx b n)];exact n,fun b u q _=>?_,
  fun b xs q=>by rw[bA (hm b _ q fun z=>z)];exact q,fun b u xs q=>by rw[bA (hm b _ q fun z=>z)];exact q,fun b ps q=>⟨#[],by rw[bA (hm b _ q fun z=>z),q];simp⟩⟩
 by_cases hbe:b=e
 ·subst hbe;exact heo
 ·exact⟨u,k b u hbe q⟩
end
def trk(h:Heap)(H:Hp):List Addr:=(List.range h.objs.size).filter fun a=>(H a).isSome
def zIZ(h:Heap)(H:Hp):Heap:=PySem.W.hideAll h (trk h H)
theorem zHj(h:Heap)(H:Hp):(zIZ h H).objs.size=h.objs.size:=PySem.W.hideAll_size _ _
theorem zJv{h:Heap}{H:Hp}{b:Addr}{o:Obj}(e:h.get? b=some o)(n:H b=none):(zIZ h H).get? b=some o:=
 Xw _ e fun hm=>by
  have q:(H b).isSome=true:=(List.mem_filter.mp hm).2;rw[n] at q;simp at q
theorem zMW{h:Heap}{H:Hp}{b:Addr}{o:Obj}(e:(zIZ h H).get? b=some o):h.get? b=some o/\H b=none:=by
 have e':h.get? b=some o:=PySem.W.of_hideAll (trk h H) e;refine⟨e',?_⟩
 cases q:H b with
 | none=>rfl
 | some x=>
  have hm:b∈trk h H:=List.mem_filter.mpr ⟨Qj.mpr (Heap.lt_size e'),by simp[q]⟩
  have z:(zIZ h H).get? b=none:=PySem.W.hideAll_none (trk h H) hm;rw[z] at e;cases e
def zLO(g h:Heap)(L:Addr):List (Addr×Obj):=(List.range h.objs.size).filterMap fun a=>if a=L∨(g.get? a).isSome=true then none else (h.get? a).map fun o=>(a,o)
def rest(g h:Heap)(L d:Addr):List (Addr×Obj):=(zLO g h L).filter fun p=>decide (p.1≠d)
structure Mod (K:PySem.W.Frag) (mg:Str->Option Value) (base:Heap):Prop where
 kin:K.In base
 glob:base.Ns mainGlobals mg
 blt:∃ mb,base.Ns builtinsNs mb/\∀ x:Str,x ≠ "__name__" -> mb x=bootBuiltins x
 nolimit:base.NoLimit
structure Cx where
 prog:Program
 w:World
 K:PySem.W.Frag
 mg:Str->Option Value
 base:Heap
 A:Around
 N:List Str
 s₀:Shared
 H₀:Hp
 env:Env
 outer:List Env
 stack:List Env
 ex:List Addr
 fn:Str->Bool
 calm:Bool
 pn:List (Addr×Obj)
 xe:Value->Shared->Prop
def frs(l:List Env):List Addr:=l.filterMap (·.frame)
abbrev Cx.fs(X:Cx):List Addr:=frs X.outer
def Vis(sc:Scope)(x:Str):Prop:=sc.names.lookup x=some .local∨sc.names.lookup x=some .cell∨sc.names.lookup x=some .free
def Loc(sc:Scope)(x:Str):Prop:=sc.names.lookup x=some .local∨sc.names.lookup x=some .cell
def zRY(env:Env)(h:Heap)(m:Str->Option Value)(x:Str)(u:Value):Prop:=
 (env.kindOf x=some .local/\m x=some u)∨((env.kindOf x=some .cell∨env.kindOf x=some .free)/\∃ c,env.cells.lookup x=some c/\h.IsCell c (some u))
structure Cx.Ok (X:Cx):Prop where
 mod:Mod X.K X.mg X.base
 kind:X.env.scope.kind=.function
 glob:X.env.globals=mainGlobals
 blt:X.env.builtins=builtinsNs
 above:X.s₀.heap.objs.size<=X.env.locals
 inj:∀ x y c,X.env.cells.lookup x=some c->X.env.cells.lookup y=some c->x=y
 has:∀ x,(X.env.kindOf x=some .cell∨X.env.kindOf x=some .free)->∃ c,X.env.cells.lookup x=some c
 cab:∀ x c,X.fn x=true->X.env.cells.lookup x=some c->X.s₀.heap.objs.size<=c
 hd:X.calm=true->X.A.handled=none
 frames:X.A.frames=some X.stack
 stk:X.stack=X.outer∨(X.stack=X.env::X.outer/\X.env.frame=some X.env.locals)
 exf:∀ b∈X.ex,b≠X.env.locals/\∀ x c,X.env.cells.lookup x=some c->c≠b
 bs:∀ b o,X.base.get? b=some o->X.s₀.heap.get? b=some o/\X.H₀ b=none
 bsz:X.base.objs.size<=X.s₀.heap.objs.size
 noex:∀ b o,X.base.get? b=some o->b∉X.ex
 exfs:∀ b∈X.ex,b∉X.fs
 funs:X.s₀.heap.FunFrames X.base X.outer
 frf:∀ b∈X.fs,X.H₀ b=none
structure Inv (X:Cx) (pins:List (Addr×Obj)) (σ:List (Option V)) (H:Hp) (s:Shared):Prop where
 ok:X.Ok
 os:s.os=X.s₀.os
 bare:AllBare s.gens
 base:Un X.fs X.ex X.H₀ H X.s₀.heap s.heap
 loc:∃ m,s.heap.Ns X.env.locals m/\∀(i:Nat)(x:Str)(v:V),X.N[i]?=some x->σ[i]?=some (some v)->Vis X.env.scope x->∃ u,dE v u/\zRY X.env s.heap m x u
 cell:∀ x c,X.env.cells.lookup x=some c->∃ v,s.heap.IsCell c v
 free:H X.env.locals=none
 freeC:∀ x c,X.env.cells.lookup x=some c->H c=none
 pin:∀ p∈X.pn++pins,s.heap.get? p.1=some p.2/\H p.1=none/\p.1≠X.env.locals/\p.1∉X.fs/\∀ v,p.2.data≠.cell v
 hok:HOk X.prog X.w H s.heap
 len:σ.length=X.N.length
section
variable{X:Cx}{pins:List (Addr×Obj)}{σ:List (Option V)}{H H':Hp}{s:Shared}{h':Heap}
theorem Cx.Ok.nofr(ok:X.Ok){b:Addr}{o:Obj}(e:X.base.get? b=some o):b∉X.fs:=fun hb=>by
 have:=(ok.funs.mem hb).1
 rw[e] at this;cases this
theorem Inv.bs(I:Inv X pins σ H s):∀ b o,X.base.get? b=some o->s.heap.get? b=some o/\H b=none:=fun b o e=>
 ⟨I.base.keep b o (I.ok.bs b o e).1 (I.ok.bs b o e).2 (I.ok.nofr e) (I.ok.noex b o e),I.base.free b o (I.ok.bs b o e).1 (I.ok.bs b o e).2 (I.ok.noex b o e)⟩
theorem Inv.bk(I:Inv X pins σ H s):∀ b o,X.base.get? b=some o->s.heap.get? b=some o:=fun b o e=>(I.bs b o e).1
theorem Inv.mod(I:Inv X pins σ H s):Mod X.K X.mg X.base:=I.ok.mod
theorem Inv.kIn(I:Inv X pins σ H s):X.K.In s.heap:=I.ok.mod.kin.keeps I.bk
theorem Inv.lt(I:Inv X pins σ H s):X.env.locals < s.heap.objs.size:=let ⟨_,hn,_⟩:=I.loc;hn.lt
theorem Inv.sz(I:Inv X pins σ H s):X.s₀.heap.objs.size<=s.heap.objs.size:=QB I.ok.above (Vn I.lt)
theorem Inv.nofs(I:Inv X pins σ H s){a:Addr}(h:s.heap.objs.size<=a):a∉X.fs:=fun hb=>by
 obtain⟨_,o,ho,_⟩:=I.ok.funs.mem hb;exact absurd (Qo (Heap.lt_size ho) (QB I.sz h)) (Vh _)
theorem Inv.cne(I:Inv X pins σ H s):∀ x c,X.env.cells.lookup x=some c->c≠X.env.locals:=fun x c e z=>by
 obtain⟨v,o,ho,hd⟩:=I.cell x c e;obtain⟨m,⟨o',es,ep,ho',hd',_⟩,_⟩:=I.loc;rw[z,ho'] at ho;cases ho;rw[hd'] at hd;cases hd
theorem Inv.funs(I:Inv X pins σ H s):s.heap.FunFrames X.base X.outer:=by
 have all:∀(l:List Env),(∀ b∈frs l,b∈X.fs)->X.s₀.heap.FunFrames X.base l->s.heap.FunFrames X.base l:=by
  intro l
  induction l with
  | nil=>intro _ _;trivial
  | cons env r ih=>
   intro hs hl;obtain⟨hk,⟨L,o,hf,hn,ho,hd⟩,hr⟩:=hl;have hL:L∈X.fs:=hs L (by unfold frs;rw[Xg,hf];exact Qb)
   obtain⟨sl,e⟩:=I.base.slot L o ho (I.ok.frf L hL) hL fun z=>I.ok.exfs L z hL
   exact⟨hk,⟨L,_,hf,hn,e,hd⟩,ih (fun b hb=>hs b (by unfold frs;rw[Xg,hf];exact Qc _ hb)) hr⟩
 exact all X.outer (fun _ hb=>hb) I.ok.funs
theorem Inv.stack(I:Inv X pins σ H s):s.heap.FunFrames X.base X.stack:=by
 rcases I.ok.stk with e | ⟨e,hf⟩
 ·rw[e];exact I.funs
 ·rw[e]
  obtain⟨m,hn,_⟩:=I.loc;refine .cons (by rw[I.ok.kind];decide) hf hn ?_ I.funs
  exact Heap.get?_none_of_le (QB I.ok.bsz I.ok.above)
theorem Inv.stkSub(I:Inv X pins σ H s):∀ b∈frs X.stack,b∈X.env.locals::X.fs:=fun b hb=>by
 rcases I.ok.stk with e | ⟨e,hf⟩
 ·rw[e] at hb;exact Qc _ hb
 ·rw[e] at hb
  unfold frs at hb;rw[Xg,hf] at hb;exact hb
theorem Inv.stkFree(I:Inv X pins σ H s):∀ b∈frs X.stack,H b=none:=fun b hb=>by
 rcases Qe.mp (I.stkSub b hb) with e | hb
 ·rw[e];exact I.free
 ·obtain⟨_,o,ho,_⟩:=I.ok.funs.mem hb
  exact I.base.free b o ho (I.ok.frf b hb) fun z=>I.ok.exfs b z hb
theorem Inv.step{g':Array GenState}{t':Nat}{d':Drawn}{ch:List Addr}(I:Inv X pins σ H s)
  (hch:∀ b∈ch,(b∈X.ex∨X.s₀.heap.objs.size<=b)/\b≠X.env.locals/\(∀ x c,X.env.cells.lookup x=some c->c≠b)/\∀ p∈X.pn++pins,p.1≠b)
  (keep:∀ b o,b≠X.env.locals->b∉X.fs->b∉ch->s.heap.get? b=some o->H b=none->h'.get? b=some o)
  (slot:∀ b o,b≠X.env.locals->b∈X.fs->b∉ch->s.heap.get? b=some o->H b=none->∃ sl,h'.get? b=some { o with slots:=sl }) (free:∀ b o,b∉ch->s.heap.get? b=some o->H b=none->H' b=none)
  (there:∀ b o,b∉ch->s.heap.get? b=some o->∃ o',h'.get? b=some o')
  (tups:∀ b xs,H b=some (.tup xs)->H' b=some (.tup xs)) (frzs:∀ b o u,H b=some (.frz o u)->H' b=some (.frz o u)) (tbls:∀ b ps,H b=some (.tbl ps)->∃ more,H' b=some (.tbl (ps++more)))
  (ns:∀ m,s.heap.Ns X.env.locals m->h'.Ns X.env.locals m) (hok:HOk X.prog X.w H' h') (hg:AllBare g'):
  Inv X pins σ H' { s with heap:=h',gens:=g',drawn:=d',toks:=t' }:=by
 have neL:∀ b o,X.s₀.heap.get? b=some o->b≠X.env.locals:=fun b o e=>Qs (Qo (Heap.lt_size e) I.ok.above)
 have neC:∀ b o,X.s₀.heap.get? b=some o->b∉X.ex->b∉ch:=fun b o e hx hb=>by
  rcases (hch b hb).1 with z | z
  ·exact hx z
  ·exact absurd (Qo (Heap.lt_size e) z) (Vh _)
 have cellK:∀ x c,X.env.cells.lookup x=some c->∀ v,s.heap.IsCell c v->h'.IsCell c v:=fun x c e v ⟨o,ho,hd⟩=>by
  have nch:c∉ch:=fun z=>(hch c z).2.2.1 x c e rfl
  by_cases hc:c∈X.fs
  ·obtain⟨sl,q⟩:=slot c o (I.cne x c e) hc nch ho (I.freeC x c e)
   exact⟨_,q,hd⟩
  ·exact⟨o,keep c o (I.cne x c e) hc nch ho (I.freeC x c e),hd⟩
 refine⟨I.ok,I.os,hg,⟨fun b o e n hb hx=>?_,fun b o e n hb hx=>?_,fun b o e n hx=>?_,fun b o e hx=>?_,fun b xs e=>tups b xs (I.base.tups b xs e),fun b o xs e=>frzs b o xs (I.base.frzs b o xs e),fun b ps e=>?_⟩,?_,fun x c e=>?_,?_,fun x c e=>?_,fun p hp=>?_,hok,I.len⟩
 ·exact keep b o (neL b o e) hb (neC b o e hx) (I.base.keep b o e n hb hx) (I.base.free b o e n hx)
 ·obtain⟨sl,e1⟩:=I.base.slot b o e n hb hx
  obtain⟨sl',e2⟩:=slot b _ (neL b o e) hb (neC b o e hx) e1 (I.base.free b o e n hx);exact⟨sl',e2⟩
 ·obtain⟨o',e1⟩:=I.base.there b o e hx
  exact free b o' (neC b o e hx) e1 (I.base.free b o e n hx)
 ·obtain⟨o',e1⟩:=I.base.there b o e hx
  exact there b o' (neC b o e hx) e1
 ·obtain⟨m1,e1⟩:=I.base.tbls b ps e
  obtain⟨m2,e2⟩:=tbls b _ e1;exact⟨m1++m2,by rw[e2,Array.append_assoc]⟩
 ·obtain⟨m,hn,hl⟩:=I.loc
  refine⟨m,ns m hn,fun i x v e1 e2 e3=>?_⟩
  obtain⟨u,r,l⟩:=hl i x v e1 e2 e3;refine⟨u,r,?_⟩
  rcases l with l | ⟨k,c,e,z⟩
  ·exact .inl l
  ·exact .inr ⟨k,c,e,cellK x c e _ z⟩
 ·obtain⟨v,z⟩:=I.cell x c e
  exact⟨v,cellK x c e v z⟩
 ·obtain⟨m,⟨o,_,_,ho,_⟩,_⟩:=I.loc
  exact free _ o (fun z=>(hch _ z).2.1 rfl) ho I.free
 ·obtain⟨v,o,ho,hd⟩:=I.cell x c e
  exact free c o (fun z=>(hch c z).2.2.1 x c e rfl) ho (I.freeC x c e)
 ·obtain⟨e,n,ne,nf,d⟩:=I.pin p hp
  have nch:p.1∉ch:=fun z=>(hch p.1 z).2.2.2 p hp rfl
  exact⟨keep p.1 p.2 ne nf nch e n,free p.1 p.2 nch e n,ne,nf,d⟩
theorem Inv.un{t':Nat}(I:Inv X pins σ H s)(u:Un X.fs [] H H' s.heap h')(hok:HOk X.prog X.w H' h'):Inv X pins σ H' { s with heap:=h',toks:=t' }:=by
 obtain⟨m,⟨o,es,ep,ho,r⟩,_⟩:=id I.loc;obtain⟨sl,hL⟩:=u.any ho I.free (by simp)
 exact I.step (g':=s.gens) (d':=s.drawn) (ch:=[]) (fun _ z=>nomatch z) (fun b o _ hb _ e n=>u.keep b o e n hb (by simp)) (fun b o _ hb _ e n=>u.slot b o e n hb (by simp)) (fun b o _ e n=>u.free b o e n (by simp)) (fun b o _ e=>u.there b o e (by simp)) u.tups u.frzs u.tbls (fun m' hm=>by
  obtain⟨o',es',ep',ho',r'⟩:=hm;rw[ho] at ho';cases ho'
  exact⟨_,es',ep',hL,r'⟩) hok I.bare
theorem Inv.call{g':Array GenState}{t':Nat}{d':Drawn}{ch:List Addr}(I:Inv X pins σ H s)(u:Un (frs X.stack) ch H H' s.heap h')(hok:HOk X.prog X.w H' h')(hg:AllBare g')
  (hch:∀ b∈ch,(b∈X.ex∨X.s₀.heap.objs.size<=b)/\b≠X.env.locals/\(∀ x c,X.env.cells.lookup x=some c->c≠b)/\∀ p∈X.pn++pins,p.1≠b):
  Inv X pins σ H' { s with heap:=h',gens:=g',drawn:=d',toks:=t' }:=by
 obtain⟨m,⟨o,es,ep,ho,r⟩,_⟩:=id I.loc;obtain⟨sl,hL⟩:=u.any ho I.free fun z=>(hch _ z).2.1 rfl
 exact I.step (ch:=ch) hch (fun b o hL hb hc e n=>u.keep b o e n (fun z=>(Qe.mp (I.stkSub b z)).elim hL hb) hc) (fun b o _ _ hc e n=>u.any e n hc) (fun b o hc e n=>u.free b o e n hc) (fun b o hc e=>u.there b o e hc) u.tups u.frzs u.tbls (fun m' hm=>by
  obtain⟨o',es',ep',ho',r'⟩:=hm;rw[ho] at ho';cases ho'
  exact⟨_,es',ep',hL,r'⟩) hok hg
theorem Inv.turned{t':Nat}{it:Addr}(I:Inv X pins σ H s)(k:∀ b o,b≠it->s.heap.get? b=some o->h'.get? b=some o)(hn:H it=none)(hL:it≠X.env.locals)
  (h1:it∈X.ex∨X.s₀.heap.objs.size<=it) (h2:∀ x c,X.env.cells.lookup x=some c->c≠it) (h3:∀ p∈X.pn++pins,p.1≠it):Inv X pins σ H { s with heap:=h',toks:=t' }:=by
 have nit:∀ b u,H b=some u->b≠it:=fun b u e z=>by rw[z,hn] at e;cases e
 refine I.step (g':=s.gens) (d':=s.drawn) (ch:=[it]) (fun b hb=>?_) (fun b o _ _ hc e _=>k b o (fun z=>hc (by simp[z])) e) (fun b o _ _ hc e _=>⟨o.slots,k b o (fun z=>hc (by simp[z])) e⟩) (fun _ _ _ _ n=>n)
  (fun b o hc e=>⟨o,k b o (fun z=>hc (by simp[z])) e⟩) (fun _ _ e=>e) (fun _ _ _ e=>e) (fun b ps e=>⟨#[],by rw[e];simp⟩) (fun m hm=>?_) (fun b u e=>?_) I.bare
 ·have e:b=it:=by simpa using hb
  subst e;exact⟨h1,hL,h2,h3⟩
 ·obtain⟨o,es,ep,ho,r⟩:=hm
  exact⟨o,es,ep,k _ o (Ne.symm hL) ho,r⟩
 ·refine(I.hok b u e).stay (fun c v hc q=>k c v ?_ q) (fun _ q=>q) fun _ _ q=>q
  rcases hc with z | z
  ·rw[z];exact nit b u e
  ·exact nit c _ z
theorem Inv.tok(I:Inv X pins σ H s)(t:Nat):Inv X pins σ H { s with toks:=t }:=I.un (h':=s.heap) (t':=t) Un.refl I.hok
theorem Inv.kept{t':Nat}(I:Inv X pins σ H s)(k:∀ b u,s.heap.get? b=some u->h'.get? b=some u):Inv X pins σ H { s with heap:=h',toks:=t' }:=I.un (Un.kept k) (I.hok.kept k)
theorem Inv.laid{a:Addr}{o:HO}{t':Nat}(I:Inv X pins σ H s)(k:∀ b u,s.heap.get? b=some u->h'.get? b=some u)(hp:s.heap.objs.size<=a)(new:lV X.prog X.w (upd H a o) h' a o):
  Inv X pins σ (upd H a o) { s with heap:=h',toks:=t' }:=I.un (Un.laid k hp (I.hok.fresh hp)) (I.hok.laid k hp new)
theorem Inv.write{x e:Addr}{o:HO}{t':Nat}(I:Inv X pins σ H s)(mu:Mut (H x))(he:e=x∨H e=some (.own x))(k:∀ b u,b≠e->s.heap.get? b=some u->h'.get? b=some u)(heo:∃ u,h'.get? e=some u)
  (new:lV X.prog X.w (upd H x o) h' x o):Inv X pins σ (upd H x o) { s with heap:=h',toks:=t' }:=I.un (Un.write mu he k heo) (I.hok.write mu he k heo new)
theorem Inv.pins_of{pins':List (Addr×Obj)}(I:Inv X pins σ H s)(h:∀ p∈pins',s.heap.get? p.1=some p.2/\H p.1=none/\p.1≠X.env.locals/\p.1∉X.fs/\∀ v,p.2.data≠.cell v):Inv X pins' σ H s:=
 ⟨I.ok,I.os,I.bare,I.base,I.loc,I.cell,I.free,I.freeC,fun p hp=>(QF.mp hp).elim (fun z=>I.pin p (Vw _ z)) (h p),I.hok,I.len⟩
theorem zDM{N:List Str}(hN:N.Nodup){i j:Nat}{x:Str}(a:N[i]?=some x)(b:N[j]?=some x):i=j:=by
 obtain⟨h1,e1⟩:=Qx.mp a;obtain⟨h2,e2⟩:=Qx.mp b;exact(List.getElem_inj hN).mp (e1.trans e2.symm)
theorem zBL{M:Model}{A:Around}{E:Value->Shared->Prop}{i:Nat}{x:Str}{v:V}{u:Value}{Q:Unit->Shared->Prop}(I:Inv X pins σ H s)(hN:X.N.Nodup)(hi:X.N[i]?=some x)(hx:Loc X.env.scope x)(r:dE v u)
  (h:∀ s',Inv X pins (σ.set i (some v)) H s'->(∃ a,Heap.SameBut a s.heap s'.heap/\(a=X.env.locals∨X.env.cells.lookup x=some a))->Q () s') (hf:X.fn x=true∨X.env.scope.names.lookup x=some .local:=by first | exact .inl rfl | exact .inr rfl | assumption):wpAny M A (storeName X.env x u) Q E s:=by
 obtain⟨m,hn,hl⟩:=id I.loc;have hcls:(X.env.scope.kind==.class || (X.env.scope.kind==.module && X.env.locals != X.env.globals))=false:=by rw[I.ok.kind];rfl
 have hiσ:i < σ.length:=by rw[I.len];exact(Qx.mp hi).1
 have cne:=I.cne
 have tracked:∀ {a:Addr} {h':Heap},(∃ o,s.heap.get? a=some o/\H a=none)->Heap.SameBut a s.heap h'->HOk X.prog X.w H h':=fun {a h'} ha hs b ob e=>by
  obtain⟨_,_,hfree⟩:=ha;refine(I.hok b ob e).stay (fun c w' hc q=>(hs.2 c ?_).trans q) (fun _ q=>q) fun _ _ q=>q
  rintro rfl
  rcases hc with rfl | hc
  ·rw[hfree] at e;cases e
  ·rw[hfree] at hc;cases hc
 rcases hx with hk | hk
 ·refine wpAny_storeName_local hk hn (fun h' hn' hs=>?_) hcls
  obtain⟨oL,_,_,hoL,_⟩:=id hn;refine h _ ⟨I.ok,I.os,I.bare,⟨fun b o e n hb hx=>?_,fun b o e n hb hx=>?_,I.base.free,fun b o e hx=>?_,I.base.tups,I.base.frzs,I.base.tbls⟩,⟨_,hn',fun j y v' e1 e2 e3=>?_⟩,fun y c e=>?_,I.free,I.freeC,fun p hp=>?_,tracked ⟨oL,hoL,I.free⟩ hs,by simpa using I.len⟩ ⟨_,hs,.inl rfl⟩
  ·exact(hs.2 b (Qs (Qo (Heap.lt_size e) I.ok.above))).trans (I.base.keep b o e n hb hx)
  ·obtain⟨sl,e1⟩:=I.base.slot b o e n hb hx
   exact⟨sl,(hs.2 b (Qs (Qo (Heap.lt_size e) I.ok.above))).trans e1⟩
  ·obtain⟨o',e1⟩:=I.base.there b o e hx
   exact⟨o',(hs.2 b (Qs (Qo (Heap.lt_size e) I.ok.above))).trans e1⟩
  ·by_cases hj:j=i
   ·subst hj
    rw[hi] at e1;cases e1
    rw[QR hiσ] at e2;cases e2;exact⟨u,r,.inl ⟨hk,by simp⟩⟩
   ·rw[QL (Ne.symm hj)] at e2
    obtain⟨u',r',q⟩:=hl j y v' e1 e2 e3;refine⟨u',r',?_⟩
    rcases q with⟨k,e⟩ | ⟨k,c,e,z⟩
    ·refine .inl ⟨k,?_⟩
     have:y≠x:=fun e=>hj (zDM hN e1 (e ▸ hi))
     simp[this,e]
    ·exact .inr ⟨k,c,e,z.sameBut hs (cne y c e)⟩
  ·obtain⟨w',z⟩:=I.cell y c e
   exact⟨w',z.sameBut hs (cne y c e)⟩
  ·obtain⟨e,n,ne,nf,d⟩:=I.pin p hp
   exact⟨(hs.2 p.1 ne).trans e,n,ne,nf,d⟩
 ·have hfn:X.fn x=true:=by
   rcases hf with z | z
   ·exact z
   ·rw[z] at hk;cases hk
  obtain⟨c,hc⟩:=I.ok.has x (.inl hk);obtain⟨w',z⟩:=I.cell x c hc;refine wpAny_storeName_cell I.ok.kind hk hc z (fun h' hc' hs=>?_)
  obtain⟨oc,hoc,hocd⟩:=id z;refine h { s with heap:=h' } ⟨I.ok,I.os,I.bare,⟨fun b o e n hb hx=>?_,fun b o e n hb hx=>?_,I.base.free,fun b o e hx=>?_,I.base.tups,I.base.frzs,I.base.tbls⟩,⟨m,hn.sameBut hs (Ne.symm (cne x c hc)),fun j y v' e1 e2 e3=>?_⟩,fun y c' e=>?_,I.free,I.freeC,fun p hp=>?_,tracked ⟨oc,hoc,I.freeC x c hc⟩ hs,by simpa using I.len⟩ ⟨c,hs,.inr hc⟩
  ·exact(hs.2 b (Qs (Qo (Heap.lt_size e) (I.ok.cab x c hfn hc)))).trans (I.base.keep b o e n hb hx)
  ·obtain⟨sl,e1⟩:=I.base.slot b o e n hb hx
   exact⟨sl,(hs.2 b (Qs (Qo (Heap.lt_size e) (I.ok.cab x c hfn hc)))).trans e1⟩
  ·obtain⟨o',e1⟩:=I.base.there b o e hx
   exact⟨o',(hs.2 b (Qs (Qo (Heap.lt_size e) (I.ok.cab x c hfn hc)))).trans e1⟩
  ·by_cases hj:j=i
   ·subst hj
    rw[hi] at e1;cases e1
    rw[QR hiσ] at e2;cases e2;exact⟨u,r,.inr ⟨.inl hk,c,hc,hc'⟩⟩
   ·rw[QL (Ne.symm hj)] at e2
    obtain⟨u',r',q⟩:=hl j y v' e1 e2 e3;refine⟨u',r',?_⟩
    rcases q with q | ⟨k,c',e,z'⟩
    ·exact .inl q
    ·refine .inr ⟨k,c',e,z'.sameBut hs ?_⟩
     rintro rfl
     exact hj (zDM hN e1 (I.ok.inj _ _ _ e hc ▸ hi))
  ·by_cases hcc:c'=c
   ·subst hcc;exact⟨_,hc'⟩
   ·obtain⟨w2,z2⟩:=I.cell y c' e
    exact⟨w2,z2.sameBut hs hcc⟩
  ·obtain⟨e,n,ne,nf,d⟩:=I.pin p hp
   refine⟨(hs.2 p.1 ?_).trans e,n,ne,nf,d⟩
   intro q;rw[q,hoc] at e;have q':oc=p.2:=QK e;exact d w' (by rw[<-q'];exact hocd)
theorem sP{M:Model}{A:Around}{E:Value->Shared->Prop}{i:Nat}{x:Str}{v:V}{u:Value}{Q:Unit->Shared->Prop}(I:Inv X pins σ H s)(hN:X.N.Nodup)(hi:X.N[i]?=some x)(hx:Loc X.env.scope x)(r:dE v u)
  (h:∀ s',Inv X pins (σ.set i (some v)) H s'->Q () s') (hf:X.fn x=true∨X.env.scope.names.lookup x=some .local:=by first | exact .inl rfl | exact .inr rfl | assumption):wpAny M A (storeName X.env x u) Q E s:=
 zBL I hN hi hx r (fun s' I' _=>h s' I') hf
theorem Inv.call'{s':Shared}{ch:List Addr}(I:Inv X pins σ H s)(ho:s'.os=s.os)(u:Un (frs X.stack) ch H H' s.heap s'.heap)(hok:HOk X.prog X.w H' s'.heap)(hg:AllBare s'.gens)
  (hch:∀ b∈ch,(b∈X.ex∨X.s₀.heap.objs.size<=b)/\b≠X.env.locals/\(∀ x c,X.env.cells.lookup x=some c->c≠b)/\∀ p∈X.pn++pins,p.1≠b):Inv X pins σ H' s':=by
 obtain⟨h',g',d',t',o'⟩:=s';have e:o'=s.os:=ho;subst e;exact I.call (g':=g') (t':=t') (d':=d') u hok hg hch
end
abbrev XK:=Value->Option Addr->Hp->Prop
abbrev St:=List (Option V)
abbrev VK:=V->Hp->Prop
abbrev TE:=St->Hp->VK->Prop
abbrev TT:=St->Hp->(Bool->Hp->Prop)->Prop
abbrev TA:=St->Hp->(List V->Hp->Prop)->Prop
structure zCx where
 nx:St->Hp->Prop
 rt:VK
 bk:St->Hp->Prop:=fun _ _=>False
 ct:St->Hp->Prop:=fun _ _=>False
abbrev TS:=zCx->St->Hp->Prop
def EP(X:Cx)(pins:List (Addr×Obj))(σ:St)(Q:VK)(u:Value)(s':Shared):Prop:=∃ v H',Inv X pins σ H' s'/\dE v u/\Q v H'
def TP(X:Cx)(pins:List (Addr×Obj))(σ:St)(Q:Bool->Hp->Prop)(b:Bool)(s':Shared):Prop:=∃ H',Inv X pins σ H' s'/\Q b H'
def AP(X:Cx)(pins:List (Addr×Obj))(σ:St)(Q:List V->Hp->Prop)(us:List Value)(s':Shared):Prop:=∃ vs H',Inv X pins σ H' s'/\dR vs us/\Q vs H'
def SP(X:Cx)(pins:List (Addr×Obj))(D:zCx)(f:Flow)(s':Shared):Prop:=
 match f with
 | .next=>∃ σ' H',Inv X pins σ' H' s'/\D.nx σ' H'
 | .brk=>∃ σ' H',Inv X pins σ' H' s'/\D.bk σ' H'
 | .cont=>∃ σ' H',Inv X pins σ' H' s'/\D.ct σ' H'
 | .ret u=>∃ v σ' H',Inv X pins σ' H' s'/\dE v u/\D.rt v H'
def PE(X:Cx)(e:Expr)(t:TE):Prop:=
 ∀(pins:List (Addr×Obj))(s:Shared)(σ:St)(H:Hp)(Q:VK),Inv X pins σ H s->t σ H Q->wpAny (model X.prog X.w) X.A (eval e X.env) (EP X pins σ Q) X.xe s
def PT(X:Cx)(e:Expr)(t:TT):Prop:=
 ∀(pins:List (Addr×Obj))(s:Shared)(σ:St)(H:Hp)(Q:Bool->Hp->Prop),Inv X pins σ H s->t σ H Q->wpAny (model X.prog X.w) X.A (isTrue e X.env (eval e X.env)) (TP X pins σ Q) X.xe s
def PW(X:Cx)(e:Expr)(t:TT):Prop:=
 ∀(whole:Sem Value)(pins:List (Addr×Obj))(s:Shared)(σ:St)(H:Hp)(Q:Bool->Hp->Prop),Inv X pins σ H s->t σ H Q->wpAny (model X.prog X.w) X.A (isTrue e X.env whole) (TP X pins σ Q) X.xe s
theorem PW.pt{X:Cx}{e:Expr}{t:TT}(h:PW X e t):PT X e t:=h _
def PA(X:Cx)(es:List Expr)(t:TA):Prop:=
 ∀(pos:Pos)(pins:List (Addr×Obj))(s:Shared)(σ:St)(H:Hp)(Q:List V->Hp->Prop),Inv X pins σ H s->t σ H Q->wpAny (model X.prog X.w) X.A (spliced (backTo pos (starEach es X.env))) (AP X pins σ Q) X.xe s
def PS(X:Cx)(st:Stmt)(t:TS):Prop:=
 ∀(pins:List (Addr×Obj))(s:Shared)(σ:St)(H:Hp)(D:zCx),Inv X pins σ H s->t D σ H->wpAny (model X.prog X.w) X.A (exec st X.env) (SP X pins D) X.xe s
def PSs(X:Cx)(st:List Stmt)(t:TS):Prop:=
 ∀(pins:List (Addr×Obj))(s:Shared)(σ:St)(H:Hp)(D:zCx),Inv X pins σ H s->t D σ H->wpAny (model X.prog X.w) X.A (execs st X.env) (SP X pins D) X.xe s
theorem thn{α:Type}{t:Sem α}{Q Q':α->Shared->Prop}{M:Model}{A:Around}{E:Value->Shared->Prop}{s:Shared}(h:wpAny M A t Q E s)(hQ:∀ a s,Q a s->Q' a s):wpAny M A t Q' E s:=wpAny_mono h hQ fun _ _ x=>x
section
variable{X:Cx}
theorem bin{a b:Expr}{ta tb:TE}(ha:PE X a ta)(hb:PE X b tb){pins:List (Addr×Obj)}{s:Shared}{σ:St}{H:Hp}{R:V->V->Hp->Prop}(I:Inv X pins σ H s)(h:ta σ H fun x H1=>tb σ H1 fun y H2=>R x y H2)
  {α:Type} {Q:α->Shared->Prop} {f:Value->Value->Sem α}
  (hf:∀ v u s2 x y H2,Inv X pins σ H2 s2->dE x v->dE y u->R x y H2->wpAny (model X.prog X.w) X.A (f v u) Q X.xe s2):
  wpAny (model X.prog X.w) X.A (eval a X.env) (fun v s₁=>wpAny (model X.prog X.w) X.A (eval b X.env) (fun u s₂=>wpAny (model X.prog X.w) X.A (f v u) Q X.xe s₂) X.xe s₁) X.xe s:=by
 refine thn (ha pins s σ H _ I h) fun v s1 ⟨x,H1,I1,r1,q1⟩=>?_
 refine thn (hb pins s1 σ H1 _ I1 q1) fun u s2 ⟨y,H2,I2,r2,q2⟩=>?_
 exact hf v u s2 x y H2 I2 r1 r2 q2
abbrev zEc(i:Nat):TE:=fun σ H Q=>∃ v,σ[i]?=some (some v)/\Q v H
abbrev tC(v:V):TE:=fun _ H Q=>Q v H
theorem tY{i:Nat}{x:Str}{pos:Pos}(hN:X.N[i]?=some x)(hv:Vis X.env.scope x)(hd:(x==("__debug__" : Str))=false:=by decide)(hcd:(x==("__classdict__" : Str))=false:=by decide):PE X (.Name x pos) (zEc i):=by
 intro pins s σ H Q I h;obtain⟨v,e,h⟩:=h;obtain⟨m,hn,hl⟩:=I.loc;obtain⟨u,r,l⟩:=hl i x v hN e hv;have fin:EP X pins σ Q u s:=⟨v,H,I,r,h⟩;rcases l with⟨hk,hm⟩ | ⟨hk,c,hc,hcell⟩
 ·exact wpAny_Name (wpAny_loadName_local I.ok.kind hk hn hm fin) hd
 ·rcases hk with hk | hk
  ·exact wpAny_Name (wpAny_loadName_cell I.ok.kind hk hc hcell fin) hd
  ·exact wpAny_Name (wpAny_loadName_free I.ok.kind hk hc hcell fin hcd) hd
theorem aJ{i j pos}:PE X (.Constant (.int i) j pos) (tC (.int i)):=fun _ _ _ H _ I h=>wpAny_Constant_int ⟨.int i,H,I.tok _,⟨_,rfl⟩,h⟩
theorem zIj{b j pos}:PE X (.Constant (.bool b) j pos) (tC (.bl b)):=fun _ _ _ H _ I h=>Constant_bool ⟨.bl b,H,I,rfl,h⟩
theorem cE{x j pos}:PE X (.Constant (.str x) j pos) (tC (.str x)):=fun _ _ _ H _ I h=>Calls.Constant_str ⟨.str x,H,I.tok _,⟨_,rfl⟩,h⟩
def Gl(X:Cx)(x:Str):Prop:=X.env.kindOf x=some .globalImplicit
theorem zDs{E:Value->Shared->Prop}{pins:List (Addr×Obj)}{s:Shared}{σ:St}{H:Hp}{x:Str}{u:Value}{pos:Pos}{Q:Value->Shared->Prop}(I:Inv X pins σ H s)(hg:Gl X x)(hm:X.mg x=some u)(h:Q u s)
  (hd:(x==("__debug__" : Str))=false:=by decide):wpAny (model X.prog X.w) X.A (eval (.Name x pos) X.env) Q E s:=
 Calls.Name_function_global I.ok.kind hg (Calls.loadGlobal_global (by rw[I.ok.glob];exact I.mod.glob.keeps I.bk) hm h) hd
theorem rQ{E:Value->Shared->Prop}{pins:List (Addr×Obj)}{s:Shared}{σ:St}{H:Hp}{x:Str}{u:Value}{pos:Pos}{Q:Value->Shared->Prop}(I:Inv X pins σ H s)(hg:Gl X x)(hm:X.mg x=none)(hv:bootBuiltins x=some u)(h:Q u s)
  (hn:x ≠ "__name__" := by decide) (hd:(x==("__debug__" : Str))=false:=by decide):wpAny (model X.prog X.w) X.A (eval (.Name x pos) X.env) Q E s:=by
 obtain⟨mb,h1,h2⟩:=I.mod.blt;exact Calls.Name_function_global I.ok.kind hg (Calls.loadGlobal_builtin (by rw[I.ok.glob];exact I.mod.glob.keeps I.bk) hm (by rw[I.ok.blt];exact h1.keeps I.bk) ((h2 x hn).trans hv) h) hd
theorem zGu{x:Str}{v:V}{u:Value}{pos:Pos}(hg:Gl X x)(hm:X.mg x=some u)(r:dE v u)(hd:(x==("__debug__" : Str))=false:=by decide):PE X (.Name x pos) (tC v):=
 fun _ _ _ H _ I h=>zDs I hg hm ⟨v,H,I,r,h⟩ hd
variable{a b:Expr}{ta tb:TE}{pos:Pos}
def PC(X:Cx)(op:CmpOp)(a b:Expr)(t:TE):Prop:=
 ∀(pins:List (Addr×Obj))(s:Shared)(σ:St)(H:Hp)(Q:VK),Inv X pins σ H s->t σ H Q->
  wpAny (model X.prog X.w) X.A (eval a X.env) (fun v s₁=>wpAny (model X.prog X.w) X.A (eval b X.env) (fun u s₂=>wpAny (model X.prog X.w) X.A (compareOp op v u) (EP X pins σ Q) X.xe s₂) X.xe s₁) X.xe s
theorem zKl(b:Expr){op:CmpOp}(h:op≠.In)(h2:op≠.NotIn):behindInMarks op b=false:=by
 have e1:(op==CmpOp.In)=false:=by cases op<;>first | rfl | exact absurd rfl h
 have e2:(op==CmpOp.NotIn)=false:=by cases op<;>first | rfl | exact absurd rfl h2
 cases b<;>simp[behindInMarks,e1,e2]
abbrev tB(t:TE):TT:=fun σ H Q=>t σ H fun x H1=>∃ c,x=.bl c/\Q c H1
theorem zRy{op:CmpOp}{t:TE}(h:PC X op a b t)(h1:behindInMarks op b=false:=by first | exact zKl _ (by decide) (by decide) | rfl):PT X (.Compare a [op] [b] pos) (tB t):=by
 intro pins s σ H Q I hw;refine wpAny_isTrue_Compare1 (thn (h pins s σ H _ I hw) fun v s1 h1=>thn h1 fun u s2 h2=>thn h2 fun c s3 ⟨x,H1,I1,r1,q1⟩=>?_) h1
 obtain⟨d,rfl,q⟩:=q1;cases r1;exact wpAny_truthy_bool ⟨H1,I1,q⟩
theorem zPe{e:Expr}{t:TE}(h:PE X e t)(he:∀ whole,isTrue e X.env whole=(do let v <-whole;standAt e.pos;holding [v] (truthy v)):=by intro _;rfl):PT X e (tB t):=by
 intro pins s σ H Q I hw;refine isTrue_plain (thn (h pins s σ H _ I hw) fun v s1 ⟨x,H1,I1,r1,q1⟩=>?_) (he _)
 obtain⟨d,rfl,q⟩:=q1;cases r1;exact wpAny_truthy_bool ⟨H1,I1,q⟩
variable{tA tB':TT}{rest:List Expr}
abbrev zRG(t u:TT):TT:=fun σ H Q=>t σ H fun c H1=>if c=true then u σ H1 Q else Q false H1
abbrev tOr(t u:TT):TT:=fun σ H Q=>t σ H fun c H1=>if c=true then Q true H1 else u σ H1 Q
abbrev zRR(t:TT):TT:=fun σ H Q=>t σ H fun c H1=>Q (!c) H1
theorem zLP(ha:PT X a tA):PW X (.BoolOp .And [a] pos) tA:=by
 intro wh pins s σ H Q I h;refine isTrue_and (thn (ha pins s σ H Q I h) fun c s1 e=>?_)
 cases c with
 | true=>exact isTrue_and_nil e
 | false=>exact e
theorem zOm(ha:PT X a tA):PW X (.BoolOp .Or [a] pos) tA:=by
 intro wh pins s σ H Q I h;refine isTrue_or (thn (ha pins s σ H Q I h) fun c s1 e=>?_)
 cases c with
 | false=>exact isTrue_or_nil e
 | true=>exact e
theorem zNW(ha:PT X a tA)(hb:PW X (.BoolOp .And (b::rest) pos) tB'):PW X (.BoolOp .And (a::b::rest) pos) (zRG tA tB'):=by
 intro wh pins s σ H Q I h;refine isTrue_and (thn (ha pins s σ H _ I h) fun c s1 ⟨H1,I1,q1⟩=>?_)
 cases c with
 | true=>exact hb wh pins s1 σ H1 Q I1 q1
 | false=>exact⟨H1,I1,q1⟩
theorem zQl(ha:PT X a tA)(hb:PW X (.BoolOp .Or (b::rest) pos) tB'):PW X (.BoolOp .Or (a::b::rest) pos) (tOr tA tB'):=by
 intro wh pins s σ H Q I h;refine isTrue_or (thn (ha pins s σ H _ I h) fun c s1 ⟨H1,I1,q1⟩=>?_)
 cases c with
 | true=>exact⟨H1,I1,q1⟩
 | false=>exact hb wh pins s1 σ H1 Q I1 q1
theorem zOi(ha:PT X a tA):PT X (.UnaryOp .Not a pos) (zRR tA):=by
 intro pins s σ H Q I h;exact isTrue_not (ha pins s σ H (fun c H1=>Q (!c) H1) I h)
abbrev zSd(ta tb:TE):TE:=fun σ H Q=>ta σ H fun x H1=>∃ c,x=.bl c/\if c=true then Q (.bl true) H1 else tb σ H1 Q
theorem zPH{op}{t:TE}(h:PE X a t):PE X (.BoolOp op [a] pos) t:=fun pins s σ H Q I hw=>BoolOp_one (h pins s σ H Q I hw)
theorem zQw(ha:PE X a ta)(hb:PE X (.BoolOp .Or (b::rest) pos) tb):PE X (.BoolOp .Or (a::b::rest) pos) (zSd ta tb):=by
 intro pins s σ H Q I h;refine BoolOp_or (thn (ha pins s σ H _ I h) fun v s1 ⟨x,H1,I1,r1,q1⟩=>?_)
 obtain⟨c,rfl,q1⟩:=q1;cases r1;refine wpAny_truthy_bool ?_
 cases c with
 | false=>exact hb pins s1 σ H1 Q I1 q1
 | true=>exact⟨.bl true,H1,I1,rfl,q1⟩
abbrev tIf(t:TT)(ta tb:TE):TE:=fun σ H Q=>t σ H fun c H1=>if c=true then ta σ H1 Q else tb σ H1 Q
theorem zKp{c:Expr}(hc:PT X c tA)(ha:PE X a ta)(hb:PE X b tb):PE X (.IfExp c a b pos) (tIf tA ta tb):=by
 intro pins s σ H Q I h;refine wpAny_IfExp (thn (hc pins s σ H _ I h) fun d s1 ⟨H1,I1,q1⟩=>?_)
 cases d with
 | true=>exact ha pins s1 σ H1 Q I1 q1
 | false=>exact hb pins s1 σ H1 Q I1 q1
end
def SqL(K:PySem.W.Frag)(H:Hp)(a:Addr)(xs:List V):Prop:=
 Rd H a (.lst xs)∨
  ∃(o:Obj)(its:Array Value)(n:Nat),K.lookup a=some o/\o.cls=.type "list" /\ o.dict=none/\o.data=.seq its n/\its.size<=sizeLine/\dR xs its.toList
def SqT(K:PySem.W.Frag)(H:Hp)(a:Addr)(xs:List V):Prop:=
 Rd H a (.tup xs)∨
  ∃(o:Obj)(its:Array Value)(n:Nat),K.lookup a=some o/\o.cls=.type "tuple" /\ o.data=.seq its n/\its.size<=sizeLine/\dR xs its.toList
def zRX:Value->Option V
 | .none=>some .non
 | .bool b=>some (.bl b)
 | .int i _=>some (.int i)
 | .str x _=>some (.str x)
 | .bytes b _=>some (.byt b)
 | .float b _=>some (.flt b)
 | .ref a=>some (.ref a)
 | .type n=>some (.ty n)
 | _=>none
theorem dE.abs{x:V}{u:Value}(r:dE x u):zRX u=some x:=by
 cases x with
 | non=>cases r;rfl
 | bl _=>cases r;rfl
 | int _=>obtain⟨t,rfl⟩:=r;rfl
 | str _=>obtain⟨t,rfl⟩:=r;rfl
 | byt _=>obtain⟨t,rfl⟩:=r;rfl
 | flt _=>obtain⟨t,rfl⟩:=r;rfl
 | ref _=>cases r;rfl
 | ty _=>cases r;rfl
theorem dE.inj{x y:V}{u:Value}(r:dE x u)(q:dE y u):x=y:=QK (r.abs.symm.trans q.abs)
theorem dR.inj:∀ {xs ys:List V} {us:List Value},dR xs us->dR ys us->xs=ys
 | _,_,_,.nil,.nil=>rfl
 | _,_,_,.cons r t,.cons r' t'=>by rw[r.inj r',dR.inj t t']
section
variable{X:Cx}{pins:List (Addr×Obj)}{σ:St}{H:Hp}{s:Shared}{a:Addr}{xs ys:List V}
theorem SqL.of{K:PySem.W.Frag}(h:H a=some (.lst xs)):SqL K H a xs:=.inl (.inl h)
theorem SqT.of{K:PySem.W.Frag}(h:H a=some (.tup xs)):SqT K H a xs:=.inl (.inl h)
theorem Inv.list(I:Inv X pins σ H s)(h:SqL X.K H a xs):∃ its:List Value,dR xs its/\PlainL s.heap a its.toArray/\xs.length<=sizeLine:=by
 rcases h with h | ⟨o,its,n,hk,hc,hd,hs,hz,r⟩
 ·obtain⟨z,its,n,r,e⟩:=h.ok I.hok
  exact⟨its,r,⟨_,n,e,rfl,rfl,rfl⟩,z⟩
 ·refine⟨its.toList,r,⟨o,n,I.kIn a o hk,hc,hd,by simpa using hs⟩,?_⟩
  have e:=r.length;simp only[VO] at e;omega
theorem Inv.tuple(I:Inv X pins σ H s)(h:SqT X.K H a xs):∃ its:List Value,dR xs its/\IsTup s.heap a its.toArray/\xs.length<=sizeLine:=by
 rcases h with h | ⟨o,its,n,hk,hc,hs,hz,r⟩
 ·obtain⟨z,its,r,p⟩:=h.ok I.hok
  exact⟨its,r,p,z⟩
 ·refine⟨its.toList,r,⟨o,I.kIn a o hk,hc,n,by simpa using hs⟩,?_⟩
  have e:=r.length;simp only[VO] at e;omega
theorem Inv.list_inj(I:Inv X pins σ H s)(h:SqL X.K H a xs)(h':SqL X.K H a ys):xs=ys:=by
 obtain⟨its,r,⟨o,n,e,_,_,d⟩,_⟩:=I.list h;obtain⟨its',r',⟨o',n',e',_,_,d'⟩,_⟩:=I.list h';rw[e] at e';cases e'
 rw[d] at d';injection d' with d1 _
 have:its=its':=by simpa using congrArg Array.toList d1
 subst this;exact r.inj r'
theorem Inv.tuple_inj(I:Inv X pins σ H s)(h:SqT X.K H a xs)(h':SqT X.K H a ys):xs=ys:=by
 obtain⟨its,r,⟨o,e,_,n,d⟩,_⟩:=I.tuple h;obtain⟨its',r',⟨o',e',_,n',d'⟩,_⟩:=I.tuple h';rw[e] at e';cases e'
 rw[d] at d';injection d' with d1 _
 have:its=its':=by simpa using congrArg Array.toList d1
 subst this;exact r.inj r'
end
section
variable{X:Cx}{pins:List (Addr×Obj)}{σ:St}{H:Hp}{s:Shared}{E:Value->Shared->Prop}
end
section
variable{X:Cx}{st:Stmt}{rest:List Stmt}{t u:TS}{e:Expr}{te:TE}{pos:Pos}
abbrev zPZ:TS:=fun D σ H=>D.nx σ H
abbrev zQj(t u:TS):TS:=fun D σ H=>t { D with nx:=u D } σ H
theorem zLZ:PSs X [] zPZ:=fun _ _ σ H _ I h=>wpAny_execs_nil ⟨σ,H,I,h⟩
theorem sX(h1:PS X st t)(h2:PSs X rest u):PSs X (st::rest) (zQj t u):=by
 intro pins s σ H D I h;refine wpAny_execs_cons (thn (h1 pins s σ H { D with nx:=u D } I h) fun f s1 q=>?_)
 cases f with
 | next=>
  obtain⟨σ',H',I',q⟩:=q;exact h2 pins s1 σ' H' D I' q
 | ret v=>exact q
 | brk=>exact q
 | cont=>exact q
theorem zDJ(h1:PS X st t):PSs X [st] t:=by
 intro pins s σ H D I h;refine wpAny_execs_cons (thn (h1 pins s σ H D I h) fun f s1 q=>?_)
 cases f with
 | next=>exact wpAny_execs_nil q
 | ret v=>exact q
 | brk=>exact q
 | cont=>exact q
theorem Inv.quiet{pins:List (Addr×Obj)}{σ:St}{H:Hp}{s:Shared}(I:Inv X pins σ H s):interactive X.env=false:=by simp[interactive,I.ok.kind]
abbrev zQO(te:TE):TS:=fun D σ H=>te σ H fun _ H1=>D.nx σ H1
theorem xX(he:PE X e te)(hs:swapsWith e none pos.line X.env=pure false:=by rfl):PS X (.Expr e pos) (zQO te):=by
 intro pins s σ H D I h;exact wpAny_Expr_any (thn (he pins s σ H _ I h) fun v s1 ⟨x,H1,I1,r1,q1⟩=>⟨σ,H1,I1,q1⟩) I.quiet hs
abbrev zRk(te:TE):TS:=fun D σ H=>te σ H D.rt
theorem zEV(he:PE X e te):PS X (.Return (some e) pos) (zRk te):=by
 intro pins s σ H D I h;exact wpAny_Return_some (thn (he pins s σ H _ I h) fun v s1 ⟨x,H1,I1,r1,q1⟩=>⟨x,σ,H1,I1,r1,q1⟩)
abbrev zRL(c:TT)(t u:TS):TS:=fun D σ H=>c σ H fun b H1=>if b=true then t D σ H1 else u D σ H1
theorem zQv{c:Expr}{a b:List Stmt}{tc:TT}(hc:PT X c tc)(ha:PSs X a t)(hb:PSs X b u):PS X (.If c a b pos) (zRL tc t u):=by
 intro pins s σ H D I h;refine wpAny_If (thn (hc pins s σ H _ I h) fun d s1 ⟨H1,I1,q1⟩=>?_)
 cases d with
 | true=>exact ha pins s1 σ H1 D I1 q1
 | false=>exact hb pins s1 σ H1 D I1 q1
end
abbrev TG:=V->St->Hp->(St->Hp->Prop)->Prop
abbrev TGs:=List V->St->Hp->(St->Hp->Prop)->Prop
def PG(X:Cx)(target:Expr)(t:TG):Prop:=
 ∀(pins:List (Addr×Obj))(s:Shared)(σ:St)(H:Hp)(v:V)(u:Value)(Q:St->Hp->Prop),Inv X pins σ H s->dE v u->t v σ H Q->
  wpAny (model X.prog X.w) X.A (assign target X.env u) (fun _ s'=>∃ σ' H',Inv X pins σ' H' s'/\Q σ' H') X.xe s
def PGs(X:Cx)(ts:List Expr)(t:TGs):Prop:=
 ∀(pins:List (Addr×Obj))(s:Shared)(σ:St)(H:Hp)(vs:List V)(us:List Value)(Q:St->Hp->Prop),Inv X pins σ H s->dR vs us->t vs σ H Q->
  wpAny (model X.prog X.w) X.A (assignInOrder ((assignEach ts X.env).map (·.2)) us) (fun _ s'=>∃ σ' H',Inv X pins σ' H' s'/\Q σ' H') X.xe s
abbrev zQW:=V->V->V->Hp->(Hp->Prop)->Prop
def zRh(X:Cx)(t:zQW):Prop:=
 ∀(pins:List (Addr×Obj))(s:Shared)(σ:St)(H:Hp)(o i v:V)(ov iv u:Value)(Q:Hp->Prop),Inv X pins σ H s->dE o ov->dE i iv->dE v u->t o i v H Q->
  wpAny (model X.prog X.w) X.A (setItem ov iv u) (fun _ s'=>∃ H',Inv X pins σ H' s'/\Q H') X.xe s
abbrev TIp:=V->V->Hp->VK->Prop
def PIp(X:Cx)(op:Operator)(t:TIp):Prop:=
 ∀(pins:List (Addr×Obj))(s:Shared)(σ:St)(H:Hp)(x y:V)(v u:Value)(Q:VK),Inv X pins σ H s->dE x v->dE y u->t x y H Q->
  wpAny (model X.prog X.w) X.A (inplaceOp op v u) (EP X pins σ Q) X.xe s
section
variable{X:Cx}{pos:Pos}
abbrev gName(i:Nat):TG:=fun v σ H Q=>Q (σ.set i (some v)) H
theorem zDk{i:Nat}{x:Str}(hN:X.N.Nodup)(hi:X.N[i]?=some x)(hx:Loc X.env.scope x)(hf:X.fn x=true∨X.env.scope.names.lookup x=some .local:=by first | exact .inl rfl | exact .inr rfl | assumption):PG X (.Name x pos) (gName i):=by
 intro pins s σ H v u Q I r h;exact wpAny_assign_Name (sP I hN hi hx r (fun s' I'=>⟨_,H,I',h⟩) hf)
def zIA:TGs:=fun vs σ H Q=>vs=[]/\Q σ H
def nM(t:TG)(u:TGs):TGs:=fun vs σ H Q=>∃ v r,vs=v::r/\t v σ H fun σ' H'=>u r σ' H' Q
theorem zGC:PGs X [] zIA:=by
 intro pins s σ H vs us Q I r h;obtain⟨e,h⟩:=h;subst e;cases r;exact assignInOrder_nil ⟨σ,H,I,h⟩
theorem yC{e:Expr}{es:List Expr}{t:TG}{u:TGs}(h1:PG X e t)(h2:PGs X es u)
  (hs:(assignEach (e::es) X.env).map (·.2)=assign e X.env::(assignEach es X.env).map (·.2):=by rfl):PGs X (e::es) (nM t u):=by
 intro pins s σ H vs us Q I r h;obtain⟨v,vr,e1,h⟩:=h;subst e1
 cases r with
 | cons r rr=>
  rw[hs];refine assignInOrder_cons (thn (h1 pins s σ H _ _ _ I r h) fun _ s1 ⟨σ1,H1,I1,q1⟩=>?_)
  exact h2 pins s1 σ1 H1 _ _ Q I1 rr q1
def zHv(K:PySem.W.Frag)(n:Nat)(t:TGs):TG:=fun v σ H Q=>∃ a xs,v=.ref a/\SqT K H a xs/\xs.length=n/\t xs σ H Q
theorem zKz{es:List Expr}{k:Nat}{t:TGs}{n:Nat}(hc:X.calm=true)(h:PGs X es t)
  (hn:(assignEach es X.env).length=n:=by rfl) (hst:(assignEach es X.env).findIdx? (·.1)=none:=by rfl):PG X (.Tuple es k pos) (zHv X.K n t):=by
 intro pins s σ H v u Q I r hw;obtain⟨a,xs,e1,hq,hl,hw⟩:=hw;subst e1;cases r;obtain⟨its,rv,ht,hz⟩:=I.tuple hq;refine assign_Tuple_tuple (I.ok.hd hc) ht (by simp[hn,<-hl,rv.length]) hst fun h' hx=>?_
 have I1:Inv X pins σ H { s with heap:=h' }:=I.kept (t':=s.toks) fun b o e=>hx b o (Qs (Heap.lt_size e)) e
 exact h pins _ σ H xs _ Q I1 (by simpa using rv) hw
def zRT(to ti:TE)(t:zQW):TG:=fun v σ H Q=>to σ H fun o H1=>ti σ H1 fun i H2=>t o i v H2 fun H3=>Q σ H3
theorem zOK{o i:Expr}{to ti:TE}{t:zQW}(ho:PE X o to)(hi:PE X i ti)(hs:zRh X t)
  (ha:∀ v,assign (.Subscript o i pos) X.env v=(do
   let ov <-holding [v] (eval o X.env)
   let iv <-holding [v,ov] (eval i X.env)
   standAt pos
   holding [v,ov,iv] (setItem ov iv v)
   release [v,ov,iv] []):=by intro _;rfl):PG X (.Subscript o i pos) (zRT to ti t):=by
 intro pins s σ H v u Q I r h;rw[ha];refine wpAny_bind (wpAny_holding (thn (ho pins s σ H _ I h) fun ov s1 ⟨x,H1,I1,r1,q1⟩=>?_))
 refine wpAny_bind (wpAny_holding (thn (hi pins s1 σ H1 _ I1 q1) fun iv s2 ⟨y,H2,I2,r2,q2⟩=>?_))
 refine wpAny_bind (wpAny_standAt (wpAny_bind (wpAny_holding (thn (hs pins s2 σ H2 x y v ov iv u _ I2 r1 r2 r q2) fun _ s3 ⟨H3,I3,q3⟩=>?_))))
 exact wpAny_release ⟨σ,H3,I3,q3⟩
abbrev zQz(te:TE)(g:TG):TS:=fun D σ H=>te σ H fun x H1=>g x σ H1 D.nx
theorem zPq{tg e:Expr}{te:TE}{g:TG}(he:PE X e te)(hg:PG X tg g)(hs:swapsWithSole [tg] e pos.line X.env=pure false:=by rfl)(hw:swappedStores [tg] e X.env=pure none:=by rfl)
  (h1:(assignEach [tg] X.env).map (·.2)=[assign tg X.env]:=by rfl):PS X (.Assign [tg] e pos) (zQz te g):=by
 intro pins s σ H D I h;refine wpAny_Assign_stores (thn (he pins s σ H _ I h) fun v s1 ⟨x,H1,I1,r1,q1⟩=>?_) hs hw
 rw[h1];exact thn (hg pins s1 σ H1 x v _ I1 r1 q1) fun _ s2 q=>q
theorem zKZ{i:Nat}{x:Str}{e:Expr}{te:TE}{pos':Pos}(hN:X.N.Nodup)(hi:X.N[i]?=some x)(hx:Loc X.env.scope x)(he:PE X e te)(hs:swapsWith e (some (.Name x pos')) pos.line X.env=pure false:=by rfl)(hf:X.fn x=true∨X.env.scope.names.lookup x=some .local:=by first | exact .inl rfl | exact .inr rfl | assumption):
  PS X (.Assign [.Name x pos'] e pos) (zQz te (gName i)):=by
 intro pins s σ H D I h;refine wpAny_Assign_Name (thn (he pins s σ H _ I h) fun v s1 ⟨y,H1,I1,r1,q1⟩=>?_) hs
 exact sP I1 hN hi hx r1 (fun s2 I2=>⟨_,H1,I2,q1⟩) hf
abbrev zRM(i:Nat)(te:TE)(ti:TIp):TS:=fun D σ H=>∃ x,σ[i]?=some (some x)/\te σ H fun y H1=>ti x y H1 fun z H2=>D.nx (σ.set i (some z)) H2
theorem zOw{i:Nat}{x:Str}{e:Expr}{te:TE}{op:Operator}{ti:TIp}{pos':Pos}(hN:X.N.Nodup)(hi:X.N[i]?=some x)(hx:Loc X.env.scope x)(he:PE X e te)(ho:PIp X op ti)(hf:X.fn x=true∨X.env.scope.names.lookup x=some .local:=by first | exact .inl rfl | exact .inr rfl | assumption):
  PS X (.AugAssign (.Name x pos') op e pos) (zRM i te ti):=by
 intro pins s σ H D I h;obtain⟨v,e1,h⟩:=h;obtain⟨m,hn,hl⟩:=I.loc;have vis:Vis X.env.scope x:=by rcases hx with k | k;exact .inl k;exact .inr (.inl k)
 obtain⟨u,r,l⟩:=hl i x v hi e1 vis;refine wpAny_AugAssign_Name ?_
 have go:wpAny (model X.prog X.w) X.A (eval e X.env) (fun w s₂=>wpAny (model X.prog X.w) X.A (inplaceOp op u w) (fun r s₃=>wpAny (model X.prog X.w) X.A (storeName X.env x r) (fun _=>SP X pins D .next) X.xe s₃) X.xe s₂) X.xe s:=by
  refine thn (he pins s σ H _ I h) fun w s1 ⟨y,H1,I1,r1,q1⟩=>?_
  refine thn (ho pins s1 σ H1 v y u w _ I1 r r1 q1) fun z s2 ⟨zv,H2,I2,r2,q2⟩=>?_
  exact sP I2 hN hi hx r2 (fun s3 I3=>⟨_,H2,I3,q2⟩) hf
 rcases l with⟨hk,hm⟩ | ⟨hk,c,hc,hcell⟩
 ·exact wpAny_loadName_local I.ok.kind hk hn hm go
 ·rcases hk with hk | hk
  ·exact wpAny_loadName_cell I.ok.kind hk hc hcell go
  ·rcases hx with k | k
   ·have:X.env.scope.names.lookup x=some .free:=hk
    rw[k] at this;cases this
   ·have:X.env.scope.names.lookup x=some .free:=hk
    rw[k] at this;cases this
def ipI(f:Int->Int->Int):TIp:=fun x y H Q=>∃ i j,x=.int i/\y=.int j/\Q (.int (f i j)) H
theorem zEv:PIp X .Add (ipI fun i j=>i+j):=by
 intro pins s σ H x y v u Q I r1 r2 h;obtain⟨i,j,e1,e2,q⟩:=h;subst e1;subst e2
 obtain⟨t,rfl⟩:=r1;obtain⟨t',rfl⟩:=r2;exact iadd_int ⟨.int _,H,I.tok _,⟨_,rfl⟩,q⟩
theorem zLu:PIp X .Sub (ipI fun i j=>i - j):=by
 intro pins s σ H x y v u Q I r1 r2 h;obtain⟨i,j,e1,e2,q⟩:=h;subst e1;subst e2
 obtain⟨t,rfl⟩:=r1;obtain⟨t',rfl⟩:=r2;exact isub_int ⟨.int _,H,I.tok _,⟨_,rfl⟩,q⟩
end
section
variable{X:Cx}{pos:Pos}
def zNS(c:TT)(tb:TS):TS:=fun D σ H=>∃ W:Nat->St->Hp->Prop,(∃ m,W m σ H)/\∀ m σ H,W m σ H->
 c σ H fun b H1=>if b=true then ∃ N:St->Hp->Prop,(∀ σ' H',N σ' H'->∃ m',m' < m/\W m' σ' H')/\tb { D with nx:=N,ct:=N,bk:=D.nx } σ H1 else D.nx σ H1
theorem zJS{c:Expr}{body:List Stmt}{tc:TT}{tb:TS}(hp:PassesOwn (model X.prog X.w) X.A X.env X.xe)(hc:PT X c tc)(hb:PSs X body tb):PS X (.While c body [] pos) (zNS tc tb):=by
 intro pins s σ H D I h;obtain⟨W,⟨m0,w0⟩,turn⟩:=h;refine wpAny_While (codeAny_whileLoop (fun n s'=>∃ σ' H',Inv X pins σ' H' s'/\W n σ' H') ?_ m0 ⟨σ,H,I,w0⟩)
 rintro n s1 ⟨σ1,H1,I1,w1⟩
 refine wpAny_passesOwn hp (thn (hc pins s1 σ1 H1 _ I1 (turn n σ1 H1 w1)) fun b s2 ⟨H2,I2,q2⟩=>?_)
 cases b with
 | true=>
  obtain⟨N,hN,q2⟩:=q2;rw[if_pos rfl];refine wpAny_passesOwn hp (thn (hb pins s2 σ1 H2 _ I2 q2) fun f s3 q3=>?_)
  cases f with
  | next=>
   obtain⟨σ3,H3,I3,n3⟩:=q3;obtain⟨m',hm,w3⟩:=hN σ3 H3 n3;exact⟨m',hm,σ3,H3,I3,w3⟩
  | cont=>
   obtain⟨σ3,H3,I3,n3⟩:=q3;obtain⟨m',hm,w3⟩:=hN σ3 H3 n3;exact⟨m',hm,σ3,H3,I3,w3⟩
  | brk=>exact q3
  | ret v=>exact q3
 | false=>
  rw[if_neg V9];exact wpAny_execs_nil ⟨σ1,H2,I2,q2⟩
end
structure It where
 go:Nat->Hp->Prop
 yld:Nat->Hp->V->Hp->Prop
 stop:Nat->Hp->Prop
def sM(X:Cx)(pins:List (Addr×Obj))(H:Hp)(b:Addr):Prop:=
 H b=none/\b≠X.env.locals/\b∉X.fs/\(b∈X.ex∨X.s₀.heap.objs.size<=b)/\(∀ x c,X.env.cells.lookup x=some c->c≠b)/\∀ p∈X.pn++pins,p.1≠b
theorem Inv.fpOk{X:Cx}{pins:List (Addr×Obj)}{σ:St}{H H':Hp}{s:Shared}{b:Addr}(I:Inv X pins σ H s)(hb:s.heap.objs.size<=b)(hn:H' b=none):sM X pins H' b:=by
 refine⟨hn,Xh (Qo I.lt hb),I.nofs hb,.inr (QB I.sz hb),fun x c e z=>?_,fun p hp z=>?_⟩
 ·obtain⟨v,q⟩:=I.cell x c e
  exact absurd (Qo q.lt (by rw[z];exact hb)) (Vh _)
 ·exact absurd (Qo (Heap.lt_size (I.pin p hp).1) (by rw[z];exact hb)) (Vh _)
structure Turn (P:Program) (w:World) (K:PySem.W.Frag) (tg:Expr) (J:It) (fp:List Addr) (it:Addr) (tn:Nat->Heap->Prop):Prop where
 mem:it∈fp
 obj:∀ i h,tn i h->∀ b∈fp,∃ o,h.get? b=some o/\∀ v,o.data≠.cell v
 keep:∀ i h h',tn i h->(∀ b∈fp,∀ o,h.get? b=some o->h'.get? b=some o)->tn i h'
 item:∀(X:Cx),X.prog=P->X.w=w->X.K=K->X.calm=true->∀(i:Nat)(pins:List (Addr×Obj))(s:Shared)(σ:St)(H:Hp)(E:Value->Shared->Prop),Inv X pins σ H s->(∀ b∈fp,sM X pins H b)->tn i s.heap->J.go i H->
  wpAny (model P w) X.A (pyNext (.ref it)) (fun r s1=>∃ u,r=some u/\
   wpAny (model P w) X.A (letOwnedTupleGo tg (.ref it) u) (fun _ s2=>∃ x H',Inv X pins σ H' s2/\dE x u/\J.yld i H x H'/\tn (i+1) s2.heap/\∀ b∈fp,H' b=none) E s1) E s
 done:∀(X:Cx),X.prog=P->X.w=w->X.K=K->X.calm=true->∀(i:Nat)(pins:List (Addr×Obj))(s:Shared)(σ:St)(H:Hp)(E:Value->Shared->Prop),Inv X pins σ H s->(∀ b∈fp,sM X pins H b)->tn i s.heap->J.stop i H->
  wpAny (model P w) X.A (pyNext (.ref it)) (fun r s1=>r=none/\Inv X pins σ H s1) E s
 self:∀(A:Around)(i:Nat)(s:Shared)(Q:Value->Shared->Prop)(E:Value->Shared->Prop),tn i s.heap->Q (.ref it) s->wpAny (model P w) A (pyIter (.ref it)) Q E s
abbrev TI:=St->Hp->(It->Hp->Prop)->Prop
def PIE(X:Cx)(pins:List (Addr×Obj))(σ:St)(tg:Expr)(R:It->Hp->Prop)(itv:Value)(s2:Shared):Prop:=
 ∃(it:Addr)(fp:List Addr)(tn:Nat->Heap->Prop)(J:It)(H':Hp),itv=.ref it/\Inv X pins σ H' s2/\Turn X.prog X.w X.K tg J fp it tn/\tn 0 s2.heap/\(∀ b∈fp,sM X pins H' b)/\R J H'
def PI(X:Cx)(tg iter:Expr)(wi:TI):Prop:=
 ∀(pins:List (Addr×Obj))(s:Shared)(σ:St)(H:Hp)(R:It->Hp->Prop),Inv X pins σ H s->wi σ H R->
  wpAny (model X.prog X.w) X.A (eval iter X.env) (fun v s1=>wpAny (model X.prog X.w) X.A (pyIter v) (PIE X pins σ tg R) X.xe s1) X.xe s
theorem zKu{M:Model}{A:Around}{E:Value->Shared->Prop}{s:Shared}{tg:Expr}{it:Addr}{u:Value}{o:Obj}{n:String}{vs:Array Value}{Q:Unit->Shared->Prop}(ho:s.heap.get? it=some o)(hc:o.cls=.type n)(hd:o.data=.fields vs)
    (hn:["enumerate", "zip", "dict_itemiterator", "dict_reverseitemiterator", "odict_iterator", "itertools.zip_longest", "itertools.pairwise"].contains n=false) (hQ:Q () s):wpAny M A (letOwnedTupleGo tg (.ref it) u) Q E s:=by
  unfold letOwnedTupleGo
  cases tg<;>first
    | exact wpAny_pure hQ
    | (cases u<;>first
        | exact wpAny_pure hQ
        | (refine wpAny_bind (wpAny_load ho ?_)
           rw[hc,hd];show wpAny M A (if (["enumerate", "zip", "dict_itemiterator", "dict_reverseitemiterator", "odict_iterator", "itertools.zip_longest", "itertools.pairwise"].contains n && vs[0]?==some (rawInt _))=true then _ else _) Q E s
           rw[if_neg (by intro h;rw[hn,Bool.false_and] at h;cases h)]
           exact wpAny_pure hQ))
def Itl(K:PySem.W.Frag)(a:Addr):It:=
 ⟨fun i H=>∃ xs x,SqL K H a xs/\xs[i]?=some x,fun i H x H'=>H'=H/\∀ xs,SqL K H a xs->xs[i]?=some x,fun i H=>∃ xs,SqL K H a xs/\xs.length<=i⟩
def Itt(K:PySem.W.Frag)(a:Addr):It:=
 ⟨fun i H=>∃ xs x,SqT K H a xs/\xs[i]?=some x,fun i H x H'=>H'=H/\∀ xs,SqT K H a xs->xs[i]?=some x,fun i H=>∃ xs,SqT K H a xs/\xs.length<=i⟩
def Itr(lo:Int)(n:Nat):It:=⟨fun i _=>i < n,fun i H x H'=>H'=H/\x=.int (lo+i),fun i _=>n<=i⟩
theorem zBN{P:Program}{w:World}{K:PySem.W.Frag}{tg:Expr}(a it:Addr):Turn P w K tg (Itl K a) [it] it (fun i h=>h.IsListIter it a i) where
 mem:=by simp
 obj:=fun i h st b hb=>by
  have e:b=it:=by simpa using hb
  subst e;obtain⟨o,e,c,d⟩:=st;exact⟨o,e,fun v z=>by rw[d] at z;cases z⟩
 keep:=fun i h h' st k=>st.at fun o e=>k it (by simp) o e
 item:=by
  intro X hP hw hK hc i pins s σ H E I hf st hg;subst hP hw hK;obtain⟨xs,x,hq,hx⟩:=hg;obtain⟨its,rv,p,hz⟩:=I.list hq;obtain⟨u,hu,ru⟩:=rv.get hx;obtain⟨f0,f1,f2,f3,f4,f5⟩:=hf it (by simp)
  refine wpAny_pyNext_list_item st p.isList (x:=u) (by simpa using hu) fun h' st' sb=>?_
  have I1:Inv X pins σ H { s with heap:=h' }:=I.turned (t':=s.toks) (fun b o hb e=>(sb.2 b hb).trans e) f0 f1 f3 f4 f5
  obtain⟨o,e,c,d⟩:=id st';exact⟨u,rfl,zKu (s:={ s with heap:=h' }) e c d (by decide) ⟨x,H,I1,ru,⟨rfl,fun ys hy=>by rw[I.list_inj hy hq];exact hx⟩,st',fun b hb=>(hf b hb).1⟩⟩
 done:=by
  intro X hP hw hK hc i pins s σ H E I hf st hg;subst hP hw hK;obtain⟨xs,hq,hx⟩:=hg;obtain⟨its,rv,p,hz⟩:=I.list hq;obtain⟨f0,f1,f2,f3,f4,f5⟩:=hf it (by simp)
  have hl:=rv.length;exact wpAny_pyNext_list_end (I.ok.hd hc) st p.isList (by simp;omega) fun h' eb=>⟨rfl,I.turned (t':=s.toks) (fun b o hb e=>eb b o hb e) f0 f1 f3 f4 f5⟩
 self:=fun _ _ _ _ _ st h=>wpAny_pyIter_listiter st h
theorem zFx{P:Program}{w:World}{K:PySem.W.Frag}{tg:Expr}(a it:Addr):Turn P w K tg (Itt K a) [it] it (fun i h=>h.IsTupleIter it a i) where
 mem:=by simp
 obj:=fun i h st b hb=>by
  have e:b=it:=by simpa using hb
  subst e;obtain⟨o,e,c,d⟩:=st;exact⟨o,e,fun v z=>by rw[d] at z;cases z⟩
 keep:=fun i h h' st k=>st.at fun o e=>k it (by simp) o e
 item:=by
  intro X hP hw hK hc i pins s σ H E I hf st hg;subst hP hw hK;obtain⟨xs,x,hq,hx⟩:=hg;obtain⟨its,rv,p,hz⟩:=I.tuple hq;obtain⟨u,hu,ru⟩:=rv.get hx;obtain⟨f0,f1,f2,f3,f4,f5⟩:=hf it (by simp)
  refine wpAny_pyNext_tuple_item st (show s.heap.IsTuple a its.toArray from p) (x:=u) (by simpa using hu) fun h' st' sb=>?_
  have I1:Inv X pins σ H { s with heap:=h' }:=I.turned (t':=s.toks) (fun b o hb e=>(sb.2 b hb).trans e) f0 f1 f3 f4 f5
  obtain⟨o,e,c,d⟩:=id st';exact⟨u,rfl,zKu (s:={ s with heap:=h' }) e c d (by decide) ⟨x,H,I1,ru,⟨rfl,fun ys hy=>by rw[I.tuple_inj hy hq];exact hx⟩,st',fun b hb=>(hf b hb).1⟩⟩
 done:=by
  intro X hP hw hK hc i pins s σ H E I hf st hg;subst hP hw hK;obtain⟨xs,hq,hx⟩:=hg;obtain⟨its,rv,p,hz⟩:=I.tuple hq;obtain⟨f0,f1,f2,f3,f4,f5⟩:=hf it (by simp)
  have hl:=rv.length;exact wpAny_pyNext_tuple_end (I.ok.hd hc) st (show s.heap.IsTuple a its.toArray from p) (by simp;omega) fun h' eb=>⟨rfl,I.turned (t':=s.toks) (fun b o hb e=>eb b o hb e) f0 f1 f3 f4 f5⟩
 self:=fun _ _ _ _ _ st h=>wpAny_pyIter_tupleiter st h
theorem zFV{P:Program}{w:World}{K:PySem.W.Frag}{tg:Expr}(it:Addr)(lo:Int)(n:Nat):Turn P w K tg (Itr lo n) [it] it (fun i h=>IsRangeIter h it (lo+(i:Nat) * 1) ((n:Int) - (i:Nat)) 1) where
 mem:=by simp
 obj:=fun i h st b hb=>by
  have e:b=it:=by simpa using hb
  subst e
  exact⟨_,st,fun v z=>by
   have z':Data.fields _=Data.cell v:=z
   cases z'⟩
 keep:=fun i h h' st k=>k it (by simp) _ st
 item:=by
  intro X hP hw hK hc i pins s σ H E I hf st hg;subst hP hw hK;obtain⟨f0,f1,f2,f3,f4,f5⟩:=hf it (by simp)
  have W:=Walks.range (prog:=X.prog) (w:=X.w) (I.ok.hd hc) it lo 1 n;refine W.item i s _ _ hg st fun v h' tk hv st' kk=>?_
  obtain⟨t,rfl⟩:=hv;have I1:Inv X pins σ H { s with heap:=h',toks:=tk }:=I.turned (fun b o hb e=>kk b o (by simpa using hb) e) f0 f1 f3 f4 f5
  refine⟨_,rfl,zKu (s:={ s with heap:=h',toks:=tk }) (n := "range_iterator") st' rfl rfl (by decide) ⟨.int (lo+i),H,I1,⟨t,?_⟩,⟨rfl,rfl⟩,st',fun b hb=>(hf b hb).1⟩⟩
  rw[QY]
 done:=by
  intro X hP hw hK hc i pins s σ H E I hf st hg;subst hP hw hK;obtain⟨f0,f1,f2,f3,f4,f5⟩:=hf it (by simp)
  exact wpAny_pyNext_range_end (I.ok.hd hc) st (by have:n<=i:=hg;omega) fun h' eb=>⟨rfl,I.turned (t':=s.toks) (fun b o hb e=>eb b o hb e) f0 f1 f3 f4 f5⟩
 self:=fun _ _ _ _ _ st h=>wpAny_pyIter_rangeiter st h
section
variable{X:Cx}{tg:Expr}
abbrev zQG(K:PySem.W.Frag)(tl:TE):TI:=fun σ H R=>tl σ H fun x H1=>∃ a,x=.ref a/\(∃ xs,SqL K H1 a xs)/\R (Itl K a) H1
theorem zLV{l:Expr}{tl:TE}(hl:PE X l tl):PI X tg l (zQG X.K tl):=by
 intro pins s σ H R I h;refine thn (hl pins s σ H _ I h) fun v s1 ⟨x,H1,I1,r1,q1⟩=>?_
 obtain⟨a,e,⟨xs,hq⟩,q⟩:=q1;subst e;cases r1;obtain⟨its,rv,p,hz⟩:=I1.list hq;refine wpAny_pyIter_list p.isList ?_
 refine⟨s1.heap.objs.size,[s1.heap.objs.size],_,_,H1,rfl,I1.kept (t':=s1.toks) fun b o e=>Heap.get?_push_of_some _ e,zBN a _,⟨_,Heap.get?_push_size _ rfl,rfl,rfl⟩,fun b hb=>?_,q⟩
 have e:b=s1.heap.objs.size:=by simpa using hb
 subst e;exact I1.fpOk (Qh _) (I1.hok.fresh (Qh _))
theorem zDL{pins:List (Addr×Obj)}{σ:St}{H:Hp}{s:Shared}{R:It->Hp->Prop}{E:Value->Shared->Prop}{lo hi:Int}{t u v:Tok}{tk:Nat}(I:Inv X pins σ H s)(h1:-(2^62)<=lo)(h2:lo < 2^62)(h3:-(2^62)<=hi)(h4:hi < 2^62)
  (q:R (Itr lo (hi - lo).toNat) H):wpAny (model X.prog X.w) X.A (pyIter (.ref s.heap.objs.size)) (PIE X pins σ tg R) E { s with heap:=s.heap.push { cls:=.type "range", data:=.fields #[.int lo t,.int hi u,.int 1 v] },toks:=tk }:=by
 refine wpAny_pyIter_range (IsRange.new ..) (small_one h1 h2 h3 h4) ?_
 have I1:Inv X pins σ H { s with heap:=s.heap.push { cls:=.type "range", data:=.fields #[.int lo t,.int hi u,.int 1 v] },toks:=tk }:=I.kept fun b o e=>Heap.get?_push_of_some _ e
 refine⟨(s.heap.push { cls:=.type "range", data:=.fields #[.int lo t,.int hi u,.int 1 v] }).objs.size,[(s.heap.push { cls:=.type "range", data:=.fields #[.int lo t,.int hi u,.int 1 v] }).objs.size],_,_,H,rfl,
  I1.kept (t':=tk) fun b o e=>Heap.get?_push_of_some _ e,zFV _ lo (hi - lo).toNat,?_,fun b hb=>?_,q⟩
 ·have e1:lo+((0:Nat):Int) * 1=lo:=by simp
  have e2:(((hi - lo).toNat:Nat):Int) - ((0:Nat):Int)=Builtin.Range.rangeSize lo hi 1:=by rw[rangeSize_one];split<;>omega
  show IsRangeIter _ _ (lo+((0:Nat):Int) * 1) ((((hi - lo).toNat:Nat):Int) - ((0:Nat):Int)) 1
  rw[e1,e2];exact Heap.get?_push_size _ rfl
 ·have e:b=(s.heap.push { cls:=.type "range", data:=.fields #[.int lo t,.int hi u,.int 1 v] }).objs.size:=by simpa using hb
  subst e;exact I1.fpOk (Qh _) (I1.hok.fresh (Qh _))
abbrev zCk(ta:TA):TI:=fun σ H R=>ta σ H fun vs H1=>∃ j:Int,vs=[.int j]/\-(2^62)<=j/\j < 2^62/\R (Itr 0 j.toNat) H1
abbrev zHH(ta:TA):TI:=fun σ H R=>ta σ H fun vs H1=>∃ i j:Int,vs=[.int i,.int j]/\(-(2^62)<=i/\i < 2^62/\-(2^62)<=j/\j < 2^62)/\R (Itr i (j - i).toNat) H1
theorem zGK{a:Expr}{ta:TA}{p pos:Pos}(hg:Gl X "range")(hm:X.mg "range" = none)(ha:PA X [a] ta)(hs:starEach [a] X.env=[(false,eval a X.env)]:=by rfl):PI X tg (.Call (.Name "range" p) [a] [] pos) (zCk ta):=by
 intro pins s σ H R I h;refine Call_ (rQ I hg hm boot_range (VP (thn (ha pos pins s σ H _ I h) fun us s1 ⟨vs,H1,I1,r1,q1⟩=>?_) hs rfl))
 obtain⟨j,e,q1,q2,q⟩:=q1;subst e
 cases r1 with
 | cons r rr=>
  cases rr;obtain⟨t,rfl⟩:=r;exact call_range_1 (zDL I1 (by omega) (by omega) q1 q2 (by simpa using q))
theorem zHF{a b:Expr}{ta:TA}{p pos:Pos}(hg:Gl X "range")(hm:X.mg "range" = none)(ha:PA X [a,b] ta)(hs:starEach [a,b] X.env=[(false,eval a X.env),(false,eval b X.env)]:=by rfl)(hs2:starEach [b] X.env=[(false,eval b X.env)]:=by rfl):
  PI X tg (.Call (.Name "range" p) [a,b] [] pos) (zHH ta):=by
 intro pins s σ H R I h;refine Call_ (rQ I hg hm boot_range (VP (thn (ha pos pins s σ H _ I h) fun us s1 ⟨vs,H1,I1,r1,q1⟩=>?_) (by rw[hs,hs2]) (by rw[hs2];rfl)))
 obtain⟨i,j,e,⟨q1,q2,q3,q4⟩,q⟩:=q1;subst e
 cases r1 with
 | cons r rr=>
  cases rr with
  | cons r' rr=>
   cases rr;obtain⟨t,rfl⟩:=r;obtain⟨t',rfl⟩:=r';exact call_range_2 (zDL I1 q1 q2 q3 q4 q)
abbrev zRn(wi:TI)(g:TG)(tb:TS):TS:=fun D σ H=>wi σ H fun J H1=>∃ W:Nat->Nat->St->Hp->Prop,(∃ m,W 0 m σ H1)/\∀ i m σ H,W i m σ H->
 (J.stop i H/\D.nx σ H)∨(J.go i H/\∃ N:St->Hp->Prop,(∀ σ' H',N σ' H'->∃ m',m' < m/\W (i+1) m' σ' H')/\∀ x H',J.yld i H x H'->g x σ H' fun σ2 H2=>tb { D with nx:=N,ct:=N,bk:=D.nx } σ2 H2)
def uW(fp:List Addr)(h:Heap):List (Addr×Obj):=fp.filterMap fun b=>(h.get? b).map fun o=>(b,o)
theorem fK{fp:List Addr}{h:Heap}{b:Addr}{o:Obj}(hb:b∈fp)(e:h.get? b=some o):(b,o)∈uW fp h:=Xx.mpr ⟨b,hb,by rw[e];rfl⟩
theorem zHl{fp:List Addr}{h:Heap}{p:Addr×Obj}(hp:p∈uW fp h):p.1∈fp/\h.get? p.1=some p.2:=by
 obtain⟨b,hb,e⟩:=Xx.mp hp
 cases q:h.get? b with
 | none=>rw[q] at e;cases e
 | some o=>
  rw[q] at e;have e':(b,o)=p:=QK e;subst e';exact⟨hb,q⟩
theorem Inv.pinned{pins:List (Addr×Obj)}{σ:St}{H:Hp}{s:Shared}{fp:List Addr}(I:Inv X pins σ H s)(hf:∀ b∈fp,sM X pins H b)(ho:∀ b∈fp,∃ o,s.heap.get? b=some o/\∀ v,o.data≠.cell v):Inv X (pins++uW fp s.heap) σ H s:=
 I.pins_of fun p hp=>(QF.mp hp).elim (fun z=>I.pin p (Qz _ z)) fun z=>by
  obtain⟨hb,e⟩:=zHl z;obtain⟨f0,f1,f2,_⟩:=hf p.1 hb;obtain⟨o,e',d⟩:=ho p.1 hb;rw[e] at e';cases e'
  exact⟨e,f0,f1,f2,d⟩
theorem Inv.unpinned{pins pl:List (Addr×Obj)}{σ:St}{H:Hp}{s:Shared}(I:Inv X (pins++pl) σ H s):Inv X pins σ H s:=I.pins_of fun p hp=>I.pin p (Qz _ (Vw _ hp))
theorem zLa{iter:Expr}{body:List Stmt}{wi:TI}{g:TG}{tb:TS}{pos:Pos}(hp:PassesOwn (model X.prog X.w) X.A X.env X.xe)(hc:X.calm=true)(hi:PI X tg iter wi)(hg:PG X tg g)(hb:PSs X body tb)
  (hs:∀ x,foldedSetIterable iter X.env x=pure x:=by intro _;rfl):PS X (.For tg iter body [] pos) (zRn wi g tb):=by
 intro pins s σ H D I h;refine wpAny_For (thn (hi pins s σ H _ I h) fun v s1 h1=>thn h1 fun itv s2 h2=>?_) hs
 obtain⟨it,fp,tn,J,H2,e,I2,T,st2,f2,W,⟨m0,w0⟩,turn⟩:=h2;subst e;have stat:∀ {H':Hp},(∀ b∈fp,H' b=none)->∀ b∈fp,sM X pins H' b:=fun hn b hb=>⟨hn b hb,(f2 b hb).2⟩
 refine codeAny_forLoop_any (fun n s'=>∃ i σ' H',Inv X pins σ' H' s'/\tn i s'.heap/\(∀ b∈fp,H' b=none)/\W i n σ' H') ?_ m0 ⟨0,σ,H2,I2,st2,fun b hb=>(f2 b hb).1,w0⟩
 rintro n s3 ⟨i,σ3,H3,I3,st3,fr3,w3⟩
 rcases turn i n σ3 H3 w3 with⟨stop,qn⟩ | ⟨go,N,hN,step⟩
 ·refine wpAny_passesOwn hp (thn (T.done X rfl rfl rfl hc i pins s3 σ3 H3 X.xe I3 (stat fr3) st3 stop) fun r s4 ⟨hr,I4⟩=>?_)
  subst hr;exact wpAny_execs_nil ⟨σ3,H3,I4,qn⟩
 ·refine wpAny_passesOwn hp (thn (T.item X rfl rfl rfl hc i pins s3 σ3 H3 X.xe I3 (stat fr3) st3 go) fun r s4 ⟨u,hr,h4⟩=>?_)
  subst hr;refine wpAny_passesOwn hp (thn h4 fun _ s5 ⟨x,H5,I5,r5,y5,st5,fr5⟩=>?_)
  have I5':=I5.pinned (stat fr5) (T.obj _ _ st5);refine wpAny_passesOwn hp (thn (hg _ s5 σ3 H5 x u _ I5' r5 (step x H5 y5)) fun _ s6 ⟨σ6,H6,I6,q6⟩=>?_)
  refine wpAny_passesOwn hp (thn (hb _ s6 σ6 H6 _ I6 q6) fun f s7 q7=>?_)
  have again:∀ {σ7:St} {H7:Hp},Inv X (pins++uW fp s5.heap) σ7 H7 s7->N σ7 H7->∃ m,m < n/\∃ i σ' H',Inv X pins σ' H' s7/\tn i s7.heap/\(∀ b∈fp,H' b=none)/\W i m σ' H':=fun {σ7 H7} I7 n7=>by
   obtain⟨m',hm,w7⟩:=hN σ7 H7 n7;refine⟨m',hm,i+1,σ7,H7,I7.unpinned,T.keep _ _ _ st5 fun b hb o e=>(I7.pin (b,o) (Qz _ (Qz _ (fK hb e)))).1,fun b hb=>?_,w7⟩
   obtain⟨o,e,d⟩:=T.obj _ _ st5 b hb;exact(I7.pin (b,o) (Qz _ (Qz _ (fK hb e)))).2.1
  cases f with
  | next=>obtain⟨σ7,H7,I7,n7⟩:=q7;exact again I7 n7
  | cont=>obtain⟨σ7,H7,I7,n7⟩:=q7;exact again I7 n7
  | brk=>obtain⟨σ7,H7,I7,q7⟩:=q7;exact⟨σ7,H7,I7.unpinned,q7⟩
  | ret v=>obtain⟨x7,σ7,H7,I7,r7,q7⟩:=q7;exact⟨x7,σ7,H7,I7.unpinned,r7,q7⟩
end
abbrev R2:=V->V->Hp->VK->Prop
def OpR(X:Cx)(f:Value->Value->Sem Value)(r:R2):Prop:=
 ∀(pins:List (Addr×Obj))(s:Shared)(σ:St)(H:Hp)(x y:V)(v u:Value)(Q:VK),Inv X pins σ H s->dE x v->dE y u->r x y H Q->
  wpAny (model X.prog X.w) X.A (f v u) (EP X pins σ Q) X.xe s
def UnR(X:Cx)(f:Value->Sem Value)(r:V->Hp->VK->Prop):Prop:=
 ∀(pins:List (Addr×Obj))(s:Shared)(σ:St)(H:Hp)(x:V)(v:Value)(Q:VK),Inv X pins σ H s->dE x v->r x H Q->
  wpAny (model X.prog X.w) X.A (f v) (EP X pins σ Q) X.xe s
def uO(X:Cx)(f:Value)(r:List V->Hp->VK->Prop):Prop:=
 ∀(pins:List (Addr×Obj))(s:Shared)(σ:St)(H:Hp)(xs:List V)(us:List Value)(Q:VK),Inv X pins σ H s->dR xs us->r xs H Q->
  wpAny (model X.prog X.w) X.A (call f us) (EP X pins σ Q) X.xe s
abbrev tOp(r:R2)(ta tb:TE):TE:=fun σ H Q=>ta σ H fun x H1=>tb σ H1 fun y H2=>r x y H2 Q
abbrev tUn(r:V->Hp->VK->Prop)(ta:TE):TE:=fun σ H Q=>ta σ H fun x H1=>r x H1 Q
def rI(C:Int->Int->Prop)(g:Int->Int->V):R2:=fun x y H Q=>∃ i j,x=.int i/\y=.int j/\C i j/\Q (g i j) H
def rI0(g:Int->Int->V):R2:=fun x y H Q=>∃ i j,x=.int i/\y=.int j/\Q (g i j) H
def rU(g:Int->V):V->Hp->VK->Prop:=fun x H Q=>∃ i,x=.int i/\Q (g i) H
section
variable{X:Cx}{a b c:Expr}{ta tb tc:TE}{pos:Pos}
theorem zQK(ha:PE X a ta)(hb:PE X b tb){pins:List (Addr×Obj)}{s:Shared}{σ:St}{H:Hp}{R:V->V->Hp->Prop}(I:Inv X pins σ H s)
  (h:ta σ H fun x H1=>tb σ H1 fun y H2=>R x y H2) {Q:Value->Shared->Prop} {f:Value->Value->Sem Value}
  (hf:∀ v u s2 x y H2,Inv X pins σ H2 s2->dE x v->dE y u->R x y H2->wpAny (model X.prog X.w) X.A (f v u) Q X.xe s2):
  wpAny (model X.prog X.w) X.A (eval a X.env) (fun v s₁=>wpAny (model X.prog X.w) X.A (eval b X.env) (fun u s₂=>wpAny (model X.prog X.w) X.A (f v u) Q X.xe s₂) X.xe s₁) X.xe s:=by
 refine thn (ha pins s σ H _ I h) fun v s1 ⟨x,H1,I1,r1,q1⟩=>?_
 refine thn (hb pins s1 σ H1 _ I1 q1) fun u s2 ⟨y,H2,I2,r2,q2⟩=>?_
 exact hf v u s2 x y H2 I2 r1 r2 q2
theorem zIG{op:Operator}{r:R2}(ho:OpR X (binaryOp op) r)(ha:PE X a ta)(hb:PE X b tb):PE X (.BinOp a op b pos) (tOp r ta tb):=by
 intro pins s σ H Q I h;exact wpAny_BinOp (zQK ha hb I h fun v u s2 x y H2 I2 rx ry q=>ho pins s2 σ H2 x y v u Q I2 rx ry q)
theorem zQL{op:UnaryOp}{r:V->Hp->VK->Prop}(ho:UnR X (unaryOp op) r)(ha:PE X a ta):PE X (.UnaryOp op a pos) (tUn r ta):=by
 intro pins s σ H Q I h;exact UnaryOp_ (thn (ha pins s σ H _ I h) fun v s1 ⟨x,H1,I1,r1,q1⟩=>ho pins s1 σ H1 x v Q I1 r1 q1)
theorem opI{f:Value->Value->Sem Value}{C:Int->Int->Prop}{g:Int->Int->Int}
  (rule:∀(i j:Int)(t u:Tok)(s:Shared)(Q:Value->Shared->Prop)(E:Value->Shared->Prop),C i j->Q (.int (g i j) s.toks) { s with toks:=s.toks+1 }->wpAny (model X.prog X.w) X.A (f (.int i t) (.int j u)) Q E s):
  OpR X f (rI C fun i j=>.int (g i j)):=by
 intro pins s σ H x y v u Q I rx ry h;obtain⟨i,j,rfl,rfl,hc,q⟩:=h;obtain⟨t,rfl⟩:=rx;obtain⟨t',rfl⟩:=ry;exact rule i j t t' s _ _ hc ⟨.int (g i j),H,I.tok _,⟨_,rfl⟩,q⟩
theorem zRc{f:Value->Value->Sem Value}{g:Int->Int->Int}
  (rule:∀(i j:Int)(t u:Tok)(s:Shared)(Q:Value->Shared->Prop)(E:Value->Shared->Prop),Q (.int (g i j) s.toks) { s with toks:=s.toks+1 }->wpAny (model X.prog X.w) X.A (f (.int i t) (.int j u)) Q E s):
  OpR X f (rI0 fun i j=>.int (g i j)):=by
 intro pins s σ H x y v u Q I rx ry h;obtain⟨i,j,rfl,rfl,q⟩:=h;obtain⟨t,rfl⟩:=rx;obtain⟨t',rfl⟩:=ry;exact rule i j t t' s _ _ ⟨.int (g i j),H,I.tok _,⟨_,rfl⟩,q⟩
theorem zQV{f:Value->Value->Sem Value}{g:Int->Int->Bool}
  (rule:∀(i j:Int)(t u:Tok)(s:Shared)(Q:Value->Shared->Prop)(E:Value->Shared->Prop),Q (.bool (g i j)) s->wpAny (model X.prog X.w) X.A (f (.int i t) (.int j u)) Q E s):
  OpR X f (rI0 fun i j=>.bl (g i j)):=by
 intro pins s σ H x y v u Q I rx ry h;obtain⟨i,j,rfl,rfl,q⟩:=h;obtain⟨t,rfl⟩:=rx;obtain⟨t',rfl⟩:=ry;exact rule i j t t' s _ _ ⟨.bl (g i j),H,I,rfl,q⟩
def zPS(i j:Int):Prop:=(-(2^64) < i/\i < 2^64)∨(-(2^64) < j/\j < 2^64)
theorem zPS.ok{i j:Int}(h:zPS i j):IntMulOk i j:=by
 rcases h with⟨h1,h2⟩ | ⟨h1,h2⟩
 ·exact .of_left (intBits_le_64 h1 h2)
 ·exact .of_right (intBits_le_64 h1 h2)
theorem zNZ:OpR X (binaryOp .Add) (rI0 fun i j=>.int (i+j)):=zRc fun _ _ _ _ _ _ _ q=>add_int q
theorem vO:OpR X (binaryOp .Sub) (rI0 fun i j=>.int (i - j)):=zRc fun _ _ _ _ _ _ _ q=>sub_int q
theorem dW:OpR X (binaryOp .Mod) (rI (fun _ j=>j≠0) fun i j=>.int (i.fmod j)):=opI fun _ _ _ _ _ _ _ hc q=>mod_int' hc q
theorem unI{f:Value->Sem Value}{g:Int->Int}
  (rule:∀(i:Int)(t:Tok)(s:Shared)(Q:Value->Shared->Prop)(E:Value->Shared->Prop),Q (.int (g i) s.toks) { s with toks:=s.toks+1 }->wpAny (model X.prog X.w) X.A (f (.int i t)) Q E s):
  UnR X f (rU fun i=>.int (g i)):=by
 intro pins s σ H x v Q I rx h;obtain⟨i,rfl,q⟩:=h;obtain⟨t,rfl⟩:=rx;exact rule i t s _ _ ⟨.int (g i),H,I.tok _,⟨_,rfl⟩,q⟩
theorem zOP:UnR X (unaryOp .USub) (rU fun i=>.int (-i)):=unI fun _ _ _ _ _ q=>neg_int q
end
section
variable{X:Cx}{a b c:Expr}{ta tb tc:TE}{pos:Pos}
theorem pJ:OpR X (compareOp .Lt) (rI0 fun i j=>.bl (decide (i < j))):=zQV fun _ _ _ _ _ _ _ q=>lt_int q
theorem zNp:OpR X (compareOp .Gt) (rI0 fun i j=>.bl (decide (j < i))):=zQV fun _ _ _ _ _ _ _ q=>gt_int q
theorem zQq:OpR X (compareOp .GtE) (rI0 fun i j=>.bl (decide (j<=i))):=zQV fun _ _ _ _ _ _ _ q=>ge_int q
theorem OpR.or{f:Value->Value->Sem Value}{r r':R2}(h:OpR X f r)(h':OpR X f r'):OpR X f (fun x y H Q=>r x y H Q∨r' x y H Q):=by
 intro pins s σ H x y v u Q I rx ry q;rcases q with q | q
 ·exact h pins s σ H x y v u Q I rx ry q
 ·exact h' pins s σ H x y v u Q I rx ry q
theorem bH(b:Expr){op:CmpOp}(h:op≠.In:=by decide)(h2:op≠.NotIn:=by decide):behindInMarks op b=false:=by
 have e1:(op==CmpOp.In)=false:=by cases op<;>first | rfl | exact absurd rfl h
 have e2:(op==CmpOp.NotIn)=false:=by cases op<;>first | rfl | exact absurd rfl h2
 cases b<;>simp[behindInMarks,e1,e2]
theorem zMl{op:CmpOp}{r:R2}(ho:OpR X (compareOp op) r)(ha:PE X a ta)(hb:PE X b tb)(hm:behindInMarks op b=false):PE X (.Compare a [op] [b] pos) (tOp r ta tb):=by
 intro pins s σ H Q I h;exact wpAny_Compare1 (zQK ha hb I h fun v u s2 x y H2 I2 rx ry q=>ho pins s2 σ H2 x y v u Q I2 rx ry q) hm
abbrev zNY(t:TE):TT:=fun σ H Q=>t σ H fun x H'=>∃ k,x=.bl k/\Q k H'
theorem zGg{op:CmpOp}{r:R2}(ho:OpR X (compareOp op) r)(ha:PE X a ta)(hb:PE X b tb)(hm:behindInMarks op b=false):PT X (.Compare a [op] [b] pos) (zNY (tOp r ta tb)):=by
 intro pins s σ H Q I h
 refine wpAny_isTrue_Compare1 (thn (ha pins s σ H _ I h) fun v s1 ⟨x,H1,I1,r1,q1⟩=>thn (hb pins s1 σ H1 _ I1 q1) fun u s2 ⟨y,H2,I2,r2,q2⟩=>
  thn (ho pins s2 σ H2 x y v u _ I2 r1 r2 q2) fun c s3 ⟨z,H3,I3,r3,k,e,q3⟩=>?_) hm
 subst e;cases r3;exact wpAny_truthy_bool ⟨H3,I3,q3⟩
theorem zEE:(sizeLine:Nat) < 2^63:=by rw[sizeLine_eq];decide
theorem zAN{x:V}{us:List Value}(r:dR [x] us):∃ u,us=[u]/\dE x u:=by
 cases r with
 | cons r1 r2=>cases r2;exact⟨_,rfl,r1⟩
theorem zQE{x y:V}{us:List Value}(r:dR [x,y] us):∃ u w',us=[u,w']/\dE x u/\dE y w':=by
 cases r with
 | cons r1 r2=>
  cases r2 with
  | cons r3 r4=>cases r4;exact⟨_,_,rfl,r1,r3⟩
theorem sR:uO X (.builtin "abs") (fun xs H Q=>∃ i,xs=[.int i]/\Q (.int (if i < 0 then -i else i)) H):=by
 intro pins s σ H xs us Q I r h;obtain⟨i,rfl,q⟩:=h;obtain⟨u,rfl,t,rfl⟩:=zAN r;exact call_abs_int fun u tk=>⟨.int (if i < 0 then -i else i),H,I.tok _,⟨_,rfl⟩,q⟩
theorem zGi(hc:X.calm=true):uO X (.builtin "min") (fun xs H Q=>∃ i j,xs=[.int i,.int j]/\Q (.int (if j < i then j else i)) H):=by
 intro pins s σ H xs us Q I r h;obtain⟨i,j,rfl,q⟩:=h;obtain⟨u,w',rfl,⟨t,rfl⟩,⟨t',rfl⟩⟩:=zQE r;refine min_two_ints (I.ok.hd hc) fun h' tk k=>⟨_,H,I.kept k,?_,q⟩
 by_cases hj:j < i
 ·rw[if_pos hj,if_pos hj];exact⟨_,rfl⟩
 ·rw[if_neg hj,if_neg hj];exact⟨_,rfl⟩
theorem zIR:uO X (.type "int") (fun xs H Q=>(∃ i,xs=[.int i]/\Q (.int i) H)∨∃ k,xs=[.bl k]/\Q (.int (if k then 1 else 0)) H):=by
 intro pins s σ H xs us Q I r h;rcases h with⟨i,rfl,q⟩ | ⟨k,rfl,q⟩
 ·obtain⟨u,rfl,t,rfl⟩:=zAN r
  exact call_int_int ⟨.int i,H,I,⟨_,rfl⟩,q⟩
 ·obtain⟨u,rfl,r1⟩:=zAN r
  cases r1;exact call_int_bool ⟨.int (if k then 1 else 0),H,I.tok _,⟨_,rfl⟩,q⟩
end
section
variable{prog:Program}{w:World}{A:Around}{E:Value->Shared->Prop}{s:Shared}{K:PySem.W.Frag}{x dx C f:Addr}{mA:Str->Option Value}{name:Str}{v:Value}
end
section
variable{P:Program}{w:World}{H H':Hp}{h h':Heap}{a C dx:Addr}{fs fs':List (Str×V)}
end
section
variable{X:Cx}{pins:List (Addr×Obj)}{σ:St}{H:Hp}{s:Shared}{a C dx:Addr}{fs:List (Str×V)}{f:Str}{v:V}{A:Around}{E:Value->Shared->Prop}
end
section
variable{X:Cx}{o e value:Expr}{f:Str}{pos pos' tpos:Pos}{ta tv:TE}
end
section
variable{X:Cx}{pins:List (Addr×Obj)}{σ:St}{H:Hp}{s:Shared}{A:Around}{E:Value->Shared->Prop}{Q:Value->Shared->Prop}{c:Value}{b:Bool}
end
structure Room (k:Nat) (A:Around):Prop where
 hd:A.handled=none
 dp:A.depth+3 * k+5 < recursionLimit
 un:A.units+16 * k+200 < cLine
theorem Room.mono{j k:Nat}{A:Around}(r:Room k A)(h:j<=k):Room j A:=⟨r.hd,by have:=r.dp;omega,by have:=r.un;omega⟩
theorem Room.deeper{k:Nat}{A:Around}(r:Room (k+1) A)(env:Env):Room k (A.deeper env):=
 ⟨r.hd,by have:=r.dp;show A.depth+1+3 * k+5 < _;omega,by have:=r.un;show A.units+3+16 * k+200 < _;omega⟩
theorem Room.depth{k:Nat}{A:Around}(r:Room k A):A.depth < recursionLimit:=by have:=r.dp;omega
theorem Room.units{k:Nat}{A:Around}(r:Room k A):A.units+64 < cLine:=by have:=r.un;omega
abbrev zSc:TA:=fun _ H Q=>Q [] H
abbrev zQm(ta:TE)(tr:TA):TA:=fun σ H Q=>ta σ H fun x H1=>tr σ H1 fun xs H2=>Q (x::xs) H2
section
variable{X:Cx}{e:Expr}{es:List Expr}{te:TE}{t:TA}{pos:Pos}
theorem uR:PA X [] zSc:=fun _ _ _ _ H Q I h=>Calls.spliced_nil ⟨[],H,I,.nil,h⟩
theorem oE(ha:PE X e te)(hr:PA X es t)(hs:starEach (e::es) X.env=(false,eval e X.env)::starEach es X.env:=by rfl):PA X (e::es) (zQm te t):=by
 intro pos pins s σ H Q I h;rw[hs];show wpAny _ _ (spliced ((false,eval e X.env)::backTo pos (starEach es X.env))) _ _ s
 refine Calls.spliced_cons (thn (ha pins s σ H _ I h) fun u s1 ⟨x,H1,I1,r1,q1⟩=>?_)
 exact thn (hr pos pins s1 σ H1 _ I1 q1) fun us s2 ⟨xs,H2,I2,r2,q2⟩=>⟨x::xs,H2,I2,.cons r1 r2,q2⟩
abbrev zRI(t:TA):TE:=fun σ H Q=>t σ H fun xs H1=>xs.length<=sizeLine/\∀ p,H1 p=none->Q (.ref p) (upd H1 p (.tup xs))
abbrev zRU(t:TA):TE:=fun σ H Q=>t σ H fun xs H1=>xs.length<=sizeLine/\∀ p,H1 p=none->Q (.ref p) (upd H1 p (.lst xs))
theorem zOU{x1}(h:PA X es t):PE X (.Tuple es x1 pos) (zRI t):=by
 intro pins s σ H Q I hq;refine wpAny_Tuple_spliced (thn (h pos pins s σ H _ I hq) fun us s1 ⟨xs,H1,I1,r,z,q⟩=>⟨by rw[<-r.length];exact z,?_⟩)
 have hf:H1 s1.heap.objs.size=none:=I1.hok.fresh (Qh _);refine⟨.ref s1.heap.objs.size,upd H1 s1.heap.objs.size (.tup xs),I1.laid (t':=s1.toks) (fun b u e=>Heap.get?_push_of_some _ e) (Qh _) ?_,rfl,q _ hf⟩
 exact⟨z,us,r,⟨_,Heap.get?_push_size _ rfl,rfl,_,rfl⟩⟩
theorem zPg(h:PA X es t):PE X (.List es pos) (zRU t):=by
 intro pins s σ H Q I hq;refine wpAny_List_spliced (thn (h pos pins s σ H _ I hq) fun us s1 ⟨xs,H1,I1,r,z,q⟩=>⟨by rw[<-r.length];exact z,?_⟩)
 have hf:H1 s1.heap.objs.size=none:=I1.hok.fresh (Qh _);refine⟨.ref s1.heap.objs.size,upd H1 s1.heap.objs.size (.lst xs),I1.laid (t':=s1.toks) (fun b u e=>Heap.get?_push_of_some _ e) (Qh _) ?_,rfl,q _ hf⟩
 exact⟨z,us,0,r,Heap.get?_push_size _ rfl⟩
end
abbrev Sp:=List V->Hp->VK->XK->Prop
abbrev CXT:=List Env->Hp->Shared->XK->Value->Shared->Prop
structure Env0 (P:Program) (w:World) (K:PySem.W.Frag) (mg:Str->Option Value) (base:Heap) (A:Around) (outer:List Env) (s:Shared) (H:Hp):Prop where
 frames:A.frames=some outer
 mod:Mod K mg base
 bs:∀ b o,base.get? b=some o->s.heap.get? b=some o/\H b=none
 bsz:base.objs.size<=s.heap.objs.size
 funs:s.heap.FunFrames base outer
 frf:∀ b∈frs outer,H b=none
 hok:HOk P w H s.heap
 bare:AllBare s.gens
def CE(outer:List Env)(P:Program)(w:World)(H:Hp)(s:Shared)(Q:VK)(u:Value)(s':Shared):Prop:=
 ∃ v H',s'.os=s.os/\AllBare s'.gens/\Un (frs outer) [] H H' s.heap s'.heap/\HOk P w H' s'.heap/\dE v u/\Q v H'
def CR(CX:CXT)(outer:List Env)(P:Program)(w:World)(H:Hp)(s:Shared)(Q:VK)(E:XK)(r:Result)(s':Shared):Prop:=
 match r with
 | .ok (.ret u)=>CE outer P w H s Q u s'
 | .ok _=>False
 | .error e=>CX outer H s E e s'
structure FnOk (P:Program) (w:World) (K:PySem.W.Frag) (mg:Str->Option Value) (base:Heap) (CX:CXT) (k:Nat) (f:Addr) (fd:FuncData) (ps:List Str) (sp:Sp):Prop where
 len:∀ vs H Q E,sp vs H Q E->vs.length=ps.length
 run:∀(A:Around)(outer:List Env)(s:Shared)(H:Hp)(args:Args)(us:List Value)(vs:List V)(Q:VK)(E:XK),Room k A->Env0 P w K mg base A outer s H->BindsTo s fd args (ps.zip us)->dR vs us->sp vs H Q E->
  codeAny (model P w) A (.call (.ref f) args) (CR CX outer P w H s Q E) s
theorem FnOk.mono{P:Program}{w:World}{K:PySem.W.Frag}{mg:Str->Option Value}{base:Heap}{CX:CXT}{j k:Nat}{f:Addr}{fd:FuncData}{ps:List Str}{sp:Sp}(F:FnOk P w K mg base CX j f fd ps sp)(h:j<=k):
  FnOk P w K mg base CX k f fd ps sp:=⟨F.len,fun A outer s H args us vs Q E hr=>F.run A outer s H args us vs Q E (hr.mono h)⟩
theorem FnOk.imp{P:Program}{w:World}{K:PySem.W.Frag}{mg:Str->Option Value}{base:Heap}{CX:CXT}{k:Nat}{f:Addr}{fd:FuncData}{ps:List Str}{sp sp':Sp}(F:FnOk P w K mg base CX k f fd ps sp)
  (h:∀ vs H Q E,sp' vs H Q E->sp vs H Q E):FnOk P w K mg base CX k f fd ps sp':=
 ⟨fun vs H Q E q=>F.len vs H Q E (h _ _ _ _ q),fun A outer s H args us vs Q E hr he hb hv hs=>F.run A outer s H args us vs Q E hr he hb hv (h _ _ _ _ hs)⟩
theorem Env0.in1{P:Program}{w:World}{K:PySem.W.Frag}{mg:Str->Option Value}{base:Heap}{A:Around}{outer:List Env}{s:Shared}{H:Hp}(e:Env0 P w K mg base A outer s H):
  Env0 P w K mg base A.in1 outer s H:=⟨e.frames,e.mod,e.bs,e.bsz,e.funs,e.frf,e.hok,e.bare⟩
section
variable{X:Cx}{pins:List (Addr×Obj)}{σ:St}{H:Hp}{s s':Shared}
theorem Inv.env0(I:Inv X pins σ H s):Env0 X.prog X.w X.K X.mg X.base X.A X.stack s H:=
 ⟨I.ok.frames,I.ok.mod,I.bs,QB I.ok.bsz I.sz,I.stack,I.stkFree,I.hok,I.bare⟩
theorem Inv.after{Q:VK}{u:Value}(I:Inv X pins σ H s)(h:CE X.stack X.prog X.w H s Q u s'):EP X pins σ Q u s':=by
 obtain⟨v,H',os,bare,un,hok,r,q⟩:=h;obtain⟨hh,g,d,t,os'⟩:=s';obtain rfl:os'=s.os:=os;exact⟨v,H',I.call (h':=hh) (g':=g) (d':=d) (t':=t) (ch:=[]) un hok bare (fun b z=>absurd z (by simp)),r,q⟩
end
abbrev zMr(sp:Sp)(dvs:List V)(E:XK)(t:TA):TE:=fun σ H Q=>t σ H fun vs H1=>sp (vs++dvs) H1 Q E
def zCi(K:PySem.W.Frag)(fd:FuncData)(ps:List Str)(ds:List Value):Prop:=
 ∀(s:Shared)(us:List Value),K.In s.heap->(us++ds).length=ps.length->BindsTo s fd ⟨us,[]⟩ (ps.zip (us++ds))
theorem zCi.all{K:PySem.W.Frag}{fd:FuncData}{ps:List Str}(h:∀ us:List Value,us.length=ps.length->bindArgs fd ⟨us,[]⟩=pure (ps.zip us)):zCi K fd ps []:=fun s us _ hl=>by
 rw[QS] at hl ⊢
 exact .of_eq (h us hl)
def zEM(CX:CXT)(X:Cx)(E:XK):Prop:=∀(pins:List (Addr×Obj))(σ:St)(H:Hp)(s:Shared)(e:Value)(s':Shared),Inv X pins σ H s->CX X.stack H s E e s'->X.xe e s'
section
variable{X:Cx}{CX:CXT}{k:Nat}{f C:Addr}{fd:FuncData}{ps:List Str}{sp:Sp}{dvs:List V}{ds:List Value}{E:XK}{x m:Str}{p pos apos:Pos}{e o:Expr}{es:List Expr}{ta:TE}{t:TA}
theorem zNR{pins:List (Addr×Obj)}{σ:St}{H:Hp}{s:Shared}{Q:VK}{us:List Value}{vs:List V}(F:FnOk X.prog X.w X.K X.mg X.base CX k f fd ps sp)(hr:Room k X.A)(hb:zCi X.K fd ps ds)(hd:dR dvs ds)(hx:zEM CX X E)
  (I:Inv X pins σ H s) (r:dR vs us) (h:sp (vs++dvs) H Q E):wpAny (model X.prog X.w) X.A (call (.ref f) us) (EP X pins σ Q) X.xe s:=by
 have r2:dR (vs++dvs) (us++ds):=r.append hd;have hl:(us++ds).length=ps.length:=by rw[<-r2.length];exact F.len _ _ _ _ h
 refine wpAny_call (codeAny_mono (F.run X.A X.stack s H ⟨us,[]⟩ (us++ds) (vs++dvs) Q E hr I.env0 (hb s us I.kIn hl) r2 h) fun r s' hq=>?_)
 cases r with
 | error e=>exact hx pins σ H s e s' I hq
 | ok fl=>
  cases fl with
  | ret u=>exact I.after hq
  | next=>exact False.elim hq
  | brk=>exact False.elim hq
  | cont=>exact False.elim hq
theorem zCU(F:FnOk X.prog X.w X.K X.mg X.base CX k f fd ps sp)(hr:Room k X.A)(hg:Gl X x)(hm:X.mg x=some (.ref f))(hk:PySem.W.keepIn X.K (.ref f)=true)(hb:zCi X.K fd ps ds)(hd:dR dvs ds)(hx:zEM CX X E)
  (ha:PA X (e::es) t) (hdb:(x==("__debug__" : Str))=false:=by decide) (he:starEach (e::es) X.env=(false,eval e X.env)::starEach es X.env:=by rfl) (hpl:(backTo pos (starEach es X.env)).any (·.1)=false:=by rfl):
  PE X (.Call (.Name x p) (e::es) [] pos) (zMr sp dvs E t):=by
 intro pins s σ H Q I h;refine wpAny_Call_Name_kw (zDs I hg hm ?_ hdb)
 refine PySem.W.callWith_K (h₀:=X.base) I.ok.mod.kin hk (thn (ha pos pins s σ H _ I h) fun us s1 ⟨vs,H1,I1,r,q⟩=>⟨I1.kIn,?_⟩) he hpl
 exact zNR F hr hb hd hx I1 r q
end
section
variable{X:Cx}{CX:CXT}{k:Nat}{f C:Addr}{fd:FuncData}{ps ks:List Str}{sp:Sp}{E:XK}{x m:Str}{p pos apos kpos:Pos}{e o:Expr}{es:List Expr}{kws:List Keyword}{te ta:TE}{t tk:TA}{nm:Option Str}
variable{g:List Value->List Value->List Value}{gV:List V->List V->List V}
end
structure FnScope (N P:List Str) (sc:Scope):Prop where
 kind:sc.kind=.function
 co:sc.isCoroutine=false
 gen:sc.isGenerator=false
 nd:N.Nodup
 pre:N.take P.length=P
 par:∀ x∈P,sc.names.lookup x=some .local∨sc.names.lookup x=some .cell
 nofree:∀ y∈sc.names,y.2≠.free
theorem zAY{kindOf:Str->Option NameKind}{x:Str}:∀ {binds:List (Str×Value)} {m:Str->Option Value},(∀ v,(x,v)∉binds)->bindL kindOf binds m x=m x
 | [],_,_=>rfl
 | (n,v)::r,m,h=>by
  unfold bindL;rw[zAY fun w hw=>h w (Qc _ hw)];split
  ·have:x≠n:=by rintro rfl;exact h v Qb
   simp[this]
  ·rfl
theorem zBR{kindOf:Str->Option NameKind}{x:Str}:∀ {binds:List (Str×Value)} {m:Str->Option Value},(∀ v,(x,v)∉binds)->bindC kindOf binds m x=m x
 | [],_,_=>rfl
 | (n,v)::r,m,h=>by
  unfold bindC;rw[zBR fun w hw=>h w (Qc _ hw)];split
  ·rfl
  ·have:x≠n:=by rintro rfl;exact h v Qb
   simp[this]
theorem zBT{kindOf:Str->Option NameKind}{x:Str}{v:Value}:∀ {P:List Str} {vs:List Value} {i:Nat} {m:Str->Option Value},P.Nodup->P[i]?=some x->vs[i]?=some v->kindOf x=some .local->
  bindL kindOf (P.zip vs) m x=some v
 | [],_,_,_,_,h,_,_=>by simp at h
 | _::_,[],_,_,_,_,h,_=>by simp at h
 | p::P,w::vs,0,m,nd,h1,h2,hk=>by
  simp at h1 h2;subst h1;subst h2
  show bindL kindOf ((p,w)::P.zip vs) m p=_
  unfold bindL;rw[zAY fun v hv=>(VG.mp nd).1 (VQ hv).1,if_pos hk];simp
 | p::P,w::vs,i+1,m,nd,h1,h2,hk=>by
  show bindL kindOf ((p,w)::P.zip vs) m x=_
  unfold bindL;exact zBT (i:=i) (VG.mp nd).2 (by simpa using h1) (by simpa using h2) hk
theorem zAV{kindOf:Str->Option NameKind}{x:Str}{v:Value}:∀ {P:List Str} {vs:List Value} {i:Nat} {m:Str->Option Value},P.Nodup->P[i]?=some x->vs[i]?=some v->kindOf x≠some .local->
  bindC kindOf (P.zip vs) m x=some v
 | [],_,_,_,_,h,_,_=>by simp at h
 | _::_,[],_,_,_,_,h,_=>by simp at h
 | p::P,w::vs,0,m,nd,h1,h2,hk=>by
  simp at h1 h2;subst h1;subst h2
  show bindC kindOf ((p,w)::P.zip vs) m p=_
  unfold bindC;rw[zBR fun v hv=>(VG.mp nd).1 (VQ hv).1,if_neg hk];simp
 | p::P,w::vs,i+1,m,nd,h1,h2,hk=>by
  show bindC kindOf ((p,w)::P.zip vs) m x=_
  unfold bindC;exact zAV (i:=i) (VG.mp nd).2 (by simpa using h1) (by simpa using h2) hk
def start(N:List Str)(vs:List V):St:=vs.map some++List.replicate (N.length - vs.length) none
def zFc(CX:CXT)(P:Program)(w:World)(K:PySem.W.Frag)(mg:Str->Option Value)(base:Heap)(N:List Str)(qual:Str)(scope:Scope)(f:Addr)(cd:Value)(A:Around)(outer:List Env)(s:Shared)(H:Hp)(E:XK):Cx where
 prog:=P
 w:=w
 K:=K
 mg:=mg
 base:=base
 A:=A.deeper (envOfC qual scope s.heap.objs.size f cd)
 N:=N
 s₀:=s
 H₀:=H
 env:=envOfC qual scope s.heap.objs.size f cd
 outer:=outer
 stack:=envOfC qual scope s.heap.objs.size f cd::outer
 ex:=[]
 calm:=true
 fn:=fun _=>true
 pn:=[]
 xe:=fun e s'=>wpAny (model P w) (A.deeper (envOfC qual scope s.heap.objs.size f cd)) (leaving (envOfC qual scope s.heap.objs.size f cd) e) (fun _ s''=>CX outer H s E e s'') (fun e' s''=>CX outer H s E e' s'') s'
theorem zEn{sc:Scope}{n:Nat}{x:Str}(h:sc.names.lookup x=some .cell):∃ c,(cellsFrom n sc.names []).lookup x=some c:=by
 have q:=Ym sc.names n [] (.inl h);exact Option.isSome_iff_exists.mp q
theorem zIU{CX:CXT}{P:Program}{w:World}{K:PySem.W.Frag}{mg:Str->Option Value}{base:Heap}{N ps:List Str}{qual:Str}{scope:Scope}{f:Addr}{cd:Value}{A:Around}{outer:List Env}{s s1:Shared}{H:Hp}{E:XK}{us:List Value}{vs:List V}
  (S:FnScope N ps scope) (hd:A.handled=none) (e0:Env0 P w K mg base A outer s H) (hl:vs.length=ps.length) (r:dR vs us)
  (x:InCallC s s.heap.objs.size (bindL (envOfC qual scope s.heap.objs.size f cd).kindOf (ps.zip us) fun _=>none) (cellsFrom (s.heap.objs.size+1) scope.names []) (bindC (envOfC qual scope s.heap.objs.size f cd).kindOf (ps.zip us) fun _=>none) s1):
  Inv (zFc CX P w K mg base N qual scope f cd A outer s H E) [] (start N vs) H s1:=by
 have hpl:ps.length<=N.length:=by have:=congrArg List.length S.pre;rw[VR] at this;omega
 obtain⟨h1,tk,rfl,hk⟩:=x.done;have noA:∀ b:Addr,b∉(zFc CX P w K mg base N qual scope f cd A outer s H E).ex:=fun b z=>absurd (show b∈([]:List Addr) from z) (by simp)
 refine⟨⟨e0.mod,S.kind,rfl,rfl,Qh _,fun y z c h1 h2=>?_,fun y hy=>?_,fun y c _ h=>?_,fun _=>hd,Around.frames_deeper e0.frames,.inr ⟨rfl,rfl⟩,fun b z=>absurd z (noA b),e0.bs,e0.bsz,fun b _ _=>noA b,fun b z=>absurd z (noA b),e0.funs,e0.frf⟩,
  rfl,e0.bare,Un.kept hk,⟨_,x.toInCall.ns,fun i y v h1 h2 h3=>?_⟩,fun y c h=>⟨_,x.cell y c h⟩,e0.hok.fresh (Qh _),fun y c h=>?_,fun p hp=>absurd (show p∈([]:List (Addr×Obj)) from hp) (by simp),e0.hok.kept hk,?_⟩
 ·exact name_of_addr x.apart (Vx h1) (Vx h2)
 ·have hy:scope.names.lookup y=some .cell∨scope.names.lookup y=some .free:=hy
  rcases hy with hy | hy
  ·exact zEn hy
  ·exact absurd rfl (S.nofree _ (Vx hy))
 ·exact Vn (x.above y c (Vx h))
 ·have hi:i < vs.length:=by
   unfold start at h2;by_cases hi:i < vs.length
   ·exact hi
   ·rw[QU (by simpa using hi)] at h2
    rw[Xi] at h2;split at h2<;>cases h2
  have ha:vs[i]?=some v:=by
   unfold start at h2;rw[QM (by simpa using hi),Qt] at h2
   cases e:vs[i]? with
   | none=>rw[e] at h2;cases h2
   | some a=>rw[e] at h2;cases h2;rfl
  obtain⟨u,hu,rv⟩:=r.get ha
  have hp:ps[i]?=some y:=by
   rw[<-S.pre,List.getElem?_take_of_lt (by omega)];exact h1
  have ndP:ps.Nodup:=by rw[<-S.pre];exact S.nd.sublist (List.take_sublist _ _)
  refine⟨u,rv,?_⟩
  rcases S.par y (Qi hp) with k | k
  ·exact .inl ⟨k,zBT ndP hp hu k⟩
  ·obtain⟨c,e⟩:=zEn (n:=s.heap.objs.size+1) k
   refine .inr ⟨.inl k,c,e,?_⟩
   have q:=x.cell y c e;rw[zAV ndP hp hu (by show scope.names.lookup y≠_;rw[k];decide)] at q;exact q
 ·exact e0.hok.fresh (Vn (x.above y c (Vx h)))
 ·unfold start
  show _=N.length
  rw[Ql,Qg,VH];omega
theorem zNK{CX:CXT}{P:Program}{w:World}{K:PySem.W.Frag}{mg:Str->Option Value}{base:Heap}{k:Nat}{f:Addr}{name qual:Str}{params:Arguments}{body:List Stmt}{scope:Scope}{dV kV doc pm cdv ct oc:Value}{an od:Option Addr}
  {osl:Array (Option Value)} {N ps:List Str} {sp:Sp} (lk:K.lookup f=some ⟨oc,od,.func (PySem.W.fnOf name qual params body scope dV kV doc pm an cdv ct),osl⟩) (hcd:PySem.W.codeIn K cdv qual=true) (S:FnScope N ps scope)
  (len:∀ vs H Q E,sp vs H Q E->vs.length=ps.length)
  (hbody:∀(A:Around)(outer:List Env)(s:Shared)(H:Hp)(vs:List V)(Q:VK)(E:XK),Room k (A.deeper (envOfC qual scope s.heap.objs.size f cdv))->sp vs H Q E->
   ∃ t,PSs (zFc CX P w K mg base N qual scope f cdv A outer s H E) body t/\t { nx:=fun _ H'=>Q .non H',rt:=Q } (start N vs) H):
  FnOk P w K mg base CX (k+1) f (PySem.W.fnOf name qual params body scope dV kV doc pm an cdv ct) ps sp:=by
 refine⟨len,fun A outer s H args us vs Q E hr e0 hb r hsp=>?_⟩
 have hl:=len _ _ _ _ hsp;have KX:K.In s.heap:=e0.mod.kin.keeps fun b o e=>(e0.bs b o e).1
 have lim:s.heap.NoLimit:=e0.mod.nolimit.keeps fun b o e=>(e0.bs b o e).1
 have hkind:∀ y∈ps.zip us,scope.names.lookup y.1=some .local∨(scope.names.lookup y.1=some .cell/\((cellsFrom (s.heap.objs.size+1) scope.names []).lookup y.1).isSome=true):=fun ⟨n,v⟩ hy=>by
  rcases S.par n (VQ hy).1 with q | q
  ·exact .inl q
  ·exact .inr ⟨q,Ym _ _ _ (.inl q)⟩
 refine codeAny_call_function hr.depth (KX _ _ lk) rfl S.co S.gen rfl (PySem.W.codeRec_of KX hcd) (hb _ _ _ _ ?_)
 refine wpAny_newFunctionEnv_cells S.kind hkind fun env he s1 x=>?_
 subst he;refine⟨lim.keeps x.toInCall.keep,codeAny_func ?_⟩
 obtain⟨t,ht,hq⟩:=hbody A outer s H vs Q E (hr.deeper _) hsp;have I:Inv (zFc CX P w K mg base N qual scope f cdv A outer s H E) [] (start N vs) H s1:=zIU S hr.hd e0 hl r x;refine wpAny_mono (ht [] s1 (start N vs) H _ I hq) (fun fl s' hs=>?_) fun e s' hs=>hs
 have fin:∀ {σ':St} {H':Hp} {v:V} {u:Value},Inv (zFc CX P w K mg base N qual scope f cdv A outer s H E) [] σ' H' s'->dE v u->Q v H'->CE outer P w H s Q u s':=
  fun {σ' H' v u} J rv q=>⟨v,H',J.os,J.bare,J.base,J.hok,rv,q⟩
 cases fl with
 | ret u=>
  obtain⟨v,σ',H',J,rv,q⟩:=hs;exact fin J rv q
 | next=>
  obtain⟨σ',H',J,q⟩:=hs;exact fin (v:=V.non) (u:=Value.none) J rfl q
 | brk=>
  obtain⟨_,_,_,q⟩:=hs;exact False.elim q
 | cont=>
  obtain⟨_,_,_,q⟩:=hs;exact False.elim q
section
variable{X:Cx}{x:Str}{p pos:Pos}{e:Expr}{es:List Expr}{t:TA}{id T:String}{r:List V->Hp->VK->Prop}
abbrev tCB(r:List V->Hp->VK->Prop)(t:TA):TE:=fun σ H Q=>t σ H fun vs H1=>r vs H1 Q
theorem zEk(hc:uO X (.builtin id) r)(hg:Gl X x)(hm:X.mg x=none)(hv:bootBuiltins x=some (.builtin id))(ha:PA X (e::es) t)(hn:x ≠ "__name__" := by decide)(hdb:(x==("__debug__" : Str))=false:=by decide)
  (he:starEach (e::es) X.env=(false,eval e X.env)::starEach es X.env:=by rfl) (hpl:(backTo pos (starEach es X.env)).any (·.1)=false:=by rfl):PE X (.Call (.Name x p) (e::es) [] pos) (tCB r t):=by
 intro pins s σ H Q I h;refine wpAny_Call_Name_kw (rQ I hg hm hv ?_ hn hdb)
 exact PyProof.Rows.callWith_builtin1 (thn (ha pos pins s σ H _ I h) fun us s1 ⟨vs,H1,I1,r1,q1⟩=>hc pins s1 σ H1 vs us Q I1 r1 q1) he hpl
theorem zGX(hc:uO X (.type T) r)(hg:Gl X x)(hm:X.mg x=none)(hv:bootBuiltins x=some (.type T))(ha:PA X (e::es) t)(hn:x ≠ "__name__" := by decide)(hdb:(x==("__debug__" : Str))=false:=by decide)
  (he:starEach (e::es) X.env=(false,eval e X.env)::starEach es X.env:=by rfl) (hpl:(backTo pos (starEach es X.env)).any (·.1)=false:=by rfl):PE X (.Call (.Name x p) (e::es) [] pos) (tCB r t):=by
 intro pins s σ H Q I h;refine wpAny_Call_Name_kw (rQ I hg hm hv ?_ hn hdb)
 exact VP (thn (ha pos pins s σ H _ I h) fun us s1 ⟨vs,H1,I1,r1,q1⟩=>hc pins s1 σ H1 vs us Q I1 r1 q1) he hpl
end
end L2
namespace HT
open PySem PyProof.Rows
section
open PySem.SeqAt
open PySem.AutoSeq1 (wpAny_loadPart')
open PySem.MeetsSeq PySem.MeetsSeq2 PySem.MeetsSeq3
end
section
variable{prog:Program}{w:World}{A:Around}{E:Value->Shared->Prop}{s:Shared}
theorem cat_tup{t b:Addr}{vs ws:List Value}{Q:Value->Shared->Prop}(ht:IsTup s.heap t vs.toArray)(hb:IsTup s.heap b ws.toArray)(hv:vs≠[])
  (h1:ws=[]->Q (.ref t) s) (h2:ws≠[]->Q (.ref s.heap.objs.size) { s with heap:=s.heap.push { cls:=.type "tuple", data:=.seq (vs++ws).toArray } })
  (hsz:vs.length+ws.length<=sizeLine):wpAny (model prog w) A (binaryOp .Add (.ref t) (.ref b)) Q E s:=by
 obtain⟨⟨cls,dd,data,sl⟩,ho,hc,n,hd⟩:=id ht;obtain⟨⟨cls2,dd2,data2,sl2⟩,ho2,hc2,n2,hd2⟩:=id hb;simp only at hc hd hc2 hd2
 subst hc hd hc2 hd2;have e:vs.toArray++ws.toArray=(vs++ws).toArray:=by simp
 by_cases hw:ws=[]
 ·exact concat_meets ⟨_,ho,rfl⟩ ⟨_,ho2,rfl⟩ noFill_tuple_add seq_tuple_add Xy Xz (XA _ _)
   (tuple_addW1 t b vs.toArray ws.toArray n n2 dd dd2 sl sl2 (by simpa using hv) (by simp[hw])) ⟨ho,ho2,h1 hw⟩
 ·refine concat_meets ⟨_,ho,rfl⟩ ⟨_,ho2,rfl⟩ noFill_tuple_add seq_tuple_add Xy Xz (XA _ _)
   (tuple_addW2 t b vs.toArray ws.toArray n n2 dd dd2 sl sl2 (by simpa using hv) (by simpa using hw) (by rw[Qk,Qk];exact hsz)) ⟨ho,ho2,?_⟩
  rw[e];exact h2 hw
def sIx(n d:Nat):Option Int->Nat
 | none=>d
 | some v=>if v < 0 then (v+(n:Int)).toNat else min v.toNat n
end
end HT
namespace L2
open PySem PySem.Spec PyProof.Rows
abbrev TO:=St->Hp->(Option Int->Hp->Prop)->Prop
def PO(X:Cx)(e:Option Expr)(t:TO):Prop:=
 ∀(pins:List (Addr×Obj))(s:Shared)(σ:St)(H:Hp)(Q:Option Int->Hp->Prop),Inv X pins σ H s->t σ H Q->
  wpAny (model X.prog X.w) X.A (evalPart e X.env) (fun u s'=>∃ o H',Inv X pins σ H' s'/\IsPart u o/\Q o H') X.xe s
abbrev zMo:TO:=fun _ H Q=>Q none H
abbrev zQc(t:TE):TO:=fun σ H Q=>t σ H fun x H1=>∃ i,x=.int i/\Q (some i) H1
section
variable{X:Cx}{e:Expr}{te:TE}{lo hi:Option Expr}{tl th:TO}{pos p2:Pos}
theorem zLz:PO X none zMo:=by
 intro pins s σ H Q I h;rw[evalPart_none];exact wpAny_pure ⟨none,H,I,.none,h⟩
theorem zNm(h:PE X e te):PO X (some e) (zQc te):=by
 intro pins s σ H Q I hw;rw[evalPart_some];refine thn (h pins s σ H _ I hw) fun u s1 ⟨x,H1,I1,r1,q1⟩=>?_
 obtain⟨i,rfl,q⟩:=q1;obtain⟨t,rfl⟩:=r1;exact⟨some i,H1,I1,.int i t,q⟩
def SlR(X:Cx)(r:V->Option Int->Option Int->Hp->VK->Prop):Prop:=
 ∀(pins:List (Addr×Obj))(s:Shared)(σ:St)(H:Hp)(x:V)(v vl vu:Value)(lo hi:Option Int)(sl:Addr)(Q:VK),Inv X pins σ H s->dE x v->s.heap.IsSliceOf sl vl vu .none->IsPart vl lo->IsPart vu hi->r x lo hi H Q->
  ∃ T id,typeLookup (.type T) "__getitem__" = pure (some (.builtin id))/\s.TypeIs v T/\wpAny (model X.prog X.w) X.A (getItem v (.ref sl)) (EP X pins σ Q) X.xe s
abbrev tSl(r:V->Option Int->Option Int->Hp->VK->Prop)(te:TE)(tl th:TO):TE:=fun σ H Q=>te σ H fun x H1=>tl σ H1 fun l H2=>th σ H2 fun u H3=>r x l u H3 Q
theorem zKf{r:V->Option Int->Option Int->Hp->VK->Prop}(hr:SlR X r)(he:PE X e te)(hl:PO X lo tl)(hu:PO X hi th):PE X (.Subscript e (.Slice lo hi none p2) pos) (tSl r te tl th):=by
 intro pins s σ H Q I h;refine Subscript_ (thn (he pins s σ H _ I h) fun v s1 ⟨x,H1,I1,r1,q1⟩=>?_)
 refine wpAny_Slice (thn (hl pins s1 σ H1 _ I1 q1) fun vl s2 ⟨l,H2,I2,pl,q2⟩=>thn (hu pins s2 σ H2 _ I2 q2) fun vu s3 ⟨u,H3,I3,pu,q3⟩=>?_)
 rw[evalPart_none];refine wpAny_pure ?_
 have I4:Inv X pins σ H3 { s3 with heap:=s3.heap.push { cls:=.type "slice", data:=.fields #[vl,vu,.none] } }:=I3.kept (t':=s3.toks) fun b ob q=>Heap.get?_push_of_some _ q
 obtain⟨T,id,hT,ht,hg⟩:=hr pins { s3 with heap:=s3.heap.push { cls:=.type "slice", data:=.fields #[vl,vu,.none] } } σ H3 x v vl vu l u s3.heap.objs.size Q I4 r1 (Heap.IsSliceOf.new ..) pl pu q3;show wpAny (model X.prog X.w) X.A (subscriptTail e (.Slice lo hi none p2) v (.ref s3.heap.objs.size)) (EP X pins σ Q) X.xe { s3 with heap:=s3.heap.push { cls:=.type "slice", data:=.fields #[vl,vu,.none] } }
 exact tail_any (ops:=[.ref s3.heap.objs.size,v]) ht hT hg (by with_unfolding_all rfl)
def zNF(xs:List V)(lo hi:Option Int):List V:=(xs.drop (HT.sIx xs.length 0 lo)).take (HT.sIx xs.length xs.length hi - HT.sIx xs.length 0 lo)
theorem zDt(xs:List V)(lo hi:Option Int):(zNF xs lo hi).length<=xs.length:=by
 unfold zNF;rw[VR,QZ];omega
def zPn(K:PySem.W.Frag):R2:=fun x y H Q=>∃ a b xs ys,x=.ref a/\y=.ref b/\SqT K H a xs/\SqT K H b ys/\xs≠[]/\xs.length+ys.length<=sizeLine/\
 (ys=[]->Q (.ref a) H)/\(ys≠[]->∀ p,H p=none->Q (.ref p) (upd H p (.tup (xs++ys))))
theorem dR.nil_iff{xs:List V}{us:List Value}(r:dR xs us):us=[] ↔ xs=[]:=by
 cases r with
 | nil=>simp
 | cons _ _=>simp
theorem zNe:OpR X (binaryOp .Add) (zPn X.K):=by
 intro pins s σ H x y v u Q I rx ry h;obtain⟨a,b,xs,ys,rfl,rfl,ha,hb,hx,hz,q1,q2⟩:=h;cases rx;cases ry;obtain⟨its,r1,p1,_⟩:=I.tuple ha;obtain⟨its2,r2,p2,_⟩:=I.tuple hb;refine HT.cat_tup p1 p2 (fun z=>hx (r1.nil_iff.mp z)) (fun z=>⟨.ref a,H,I,rfl,q1 (r2.nil_iff.mp z)⟩) (fun z=>?_) (by rw[<-r1.length,<-r2.length];exact hz)
 refine⟨.ref s.heap.objs.size,_,I.laid (t':=s.toks) (o:=.tup (xs++ys)) (fun b ob q=>Heap.get?_push_of_some _ q) (Qh _) ?_,rfl,q2 (fun w=>z (r2.nil_iff.mpr w)) _ (I.hok.fresh (Qh _))⟩
 exact⟨by rw[Ql];exact hz,_,r1.append r2,IsTup.new _ _⟩
end
def ixN(n:Nat)(i:Int):Option Nat:=if 0<=i then (if i < n then some i.toNat else none) else if -(n:Int)<=i then some (i+n).toNat else none
def atI{α:Type}(xs:List α)(i:Int):Option α:=(ixN xs.length i).bind fun j=>xs[j]?
theorem zHy{n:Nat}{i:Int}{j:Nat}(h:ixN n i=some j):seqIndex? i n=some j/\j < n/\-(n:Int)<=i/\i < n:=by
 unfold ixN at h;by_cases h0:0<=i
 ·rw[if_pos h0] at h
  by_cases h1:i < n
  ·rw[if_pos h1] at h
   have e:i.toNat=j:=QK h;exact⟨by rw[seqIndex_of h0 h1,e],by omega,by omega,h1⟩
  ·rw[if_neg h1] at h;cases h
 ·rw[if_neg h0] at h
  by_cases h1:-(n:Int)<=i
  ·rw[if_pos h1] at h
   have e:(i+n).toNat=j:=QK h;exact⟨by rw[seqIndex_neg (by omega) h1,e],by omega,h1,by omega⟩
  ·rw[if_neg h1] at h;cases h
theorem zHZ{α:Type}{xs:List α}{i:Int}{v:α}(h:atI xs i=some v):∃ j,seqIndex? i xs.length=some j/\xs[j]?=some v/\j < xs.length/\-(xs.length:Int)<=i/\i < xs.length:=by
 unfold atI at h
 cases e:ixN xs.length i with
 | none=>rw[e] at h;cases h
 | some j=>
  rw[e] at h;obtain⟨h1,h2,h3,h4⟩:=zHy e;exact⟨j,h1,h,h2,h3,h4⟩
theorem zDC{α:Type}{xs:List α}{j:Nat}{v:α}(h:xs[j]?=some v):atI xs (j:Int)=some v:=by
 have hj:j < xs.length:=(Qx.mp h).1
 have e:ixN xs.length (j:Int)=some j:=by
  unfold ixN;rw[if_pos (by omega),if_pos (by omega)];simp
 unfold atI;rw[e];exact h
def zCH(b:Expr):Prop:=∀ o i,subscripted b false o i=operate [o,i] (getItem o i)
def IxR(X:Cx)(r:R2):Prop:=
 ∀(value slice:Expr)(pins:List (Addr×Obj))(s:Shared)(σ:St)(H:Hp)(x y:V)(v u:Value)(Q:VK),Inv X pins σ H s->dE x v->dE y u->r x y H Q->
  subscripted slice false v u=operate [v,u] (getItem v u)->wpAny (model X.prog X.w) X.A (subscriptTail value slice v u) (EP X pins σ Q) X.xe s
def MtR(X:Cx)(id:String)(r:V->List V->Hp->VK->Prop):Prop:=
 ∀(pins:List (Addr×Obj))(s:Shared)(σ:St)(H:Hp)(x:V)(xs:List V)(v:Value)(us:List Value)(Q:VK),Inv X pins σ H s->dE x v->dR xs us->r x xs H Q->
  wpAny (model X.prog X.w) X.A (call (.builtin id) (v::us)) (EP X pins σ Q) X.xe s
section
variable{X:Cx}{a b:Expr}{ta tb:TE}{pos:Pos}
theorem IxR.or{r r':R2}(h:IxR X r)(h':IxR X r'):IxR X (fun x y H Q=>r x y H Q∨r' x y H Q):=by
 intro value slice pins s σ H x y v u Q I rx ry q hs;rcases q with q | q
 ·exact h value slice pins s σ H x y v u Q I rx ry q hs
 ·exact h' value slice pins s σ H x y v u Q I rx ry q hs
theorem zFf{r:R2}(hr:IxR X r)(ha:PE X a ta)(hb:PE X b tb)(hs:zCH b):PE X (.Subscript a b pos) (tOp r ta tb):=by
 intro pins s σ H Q I h;exact Subscript_ (zQK ha hb I h fun v u s2 x y H2 I2 rx ry q=>hr a b pins s2 σ H2 x y v u Q I2 rx ry q (hs _ _))
def zPU(K:PySem.W.Frag):R2:=fun x y H Q=>∃ p xs i v,x=.ref p/\y=.int i/\SqL K H p xs/\atI xs i=some v/\Q v H
def zPV(K:PySem.W.Frag):R2:=fun x y H Q=>∃ p xs i v,x=.ref p/\y=.int i/\SqT K H p xs/\atI xs i=some v/\Q v H
theorem zNx:IxR X (zPU X.K):=by
 intro value slice pins s σ H x y v u Q I rx ry h hs;obtain⟨p,xs,i,z,rfl,rfl,hq,he,q⟩:=h;cases rx;obtain⟨t,rfl⟩:=ry;obtain⟨its,r,pl,hz⟩:=I.list hq;obtain⟨j,h1,h2,h3,h4,h5⟩:=zHZ he;obtain⟨w,ew,rw'⟩:=r.get h2;have hl:=r.length;have hn:=zEE;have fin:EP X pins σ Q w s:=⟨z,H,I,rw',q⟩;by_cases h0:0<=i
 ·have hj:i.toNat=j:=by
   rw[seqIndex_of h0 h5] at h1;exact QK h1
  exact item_listR pl.isList h0 (by omega) (by rw[hj];simpa using ew) fin hs
 ·have hj:(i+(its.toArray.size:Int)).toNat=j:=by
   rw[seqIndex_neg (by omega) h4] at h1;rw[Qk,<-hl];exact QK h1
  exact subscriptTail_builtinR (x:=w) pl.isList.typeIs slot_list_getitem.lookup
   (wpAny_getItem_list_neg (Q:=fun r s'=>r=w/\EP X pins σ Q r s') pl.isList (by omega) (by rw[Qk]<;>omega) (by omega) (by rw[hj];simpa using ew) ⟨rfl,fin⟩) hs
theorem zPE:IxR X (zPV X.K):=by
 intro value slice pins s σ H x y v u Q I rx ry h hs;obtain⟨p,xs,i,z,rfl,rfl,hq,he,q⟩:=h;cases rx;obtain⟨t,rfl⟩:=ry;obtain⟨its,r,pl,hz⟩:=I.tuple hq;obtain⟨j,h1,h2,h3,h4,h5⟩:=zHZ he;obtain⟨w,ew,rw'⟩:=r.get h2;have hl:=r.length;have hn:=zEE;have fin:EP X pins σ Q w s:=⟨z,H,I,rw',q⟩
 exact subscriptTail_builtinR (x:=w) pl.typeIs slot_tuple_getitem.lookup
  (getItem_tuple (j:=j) (Q:=fun r s'=>r=w/\EP X pins σ Q r s') pl (by omega) (by omega) (by rw[Qk,<-hl];exact h1) (by simpa using ew) ⟨rfl,fin⟩) hs
theorem zFK(its:List Value)(n j:Nat)(u:Value):Obj.mapSeq (·.setIfInBounds j u) { cls:=.type "list", data:=.seq its.toArray n }={ cls:=.type "list", data:=.seq (its.set j u).toArray n }:=by
 simp[Obj.mapSeq]
theorem Inv.lst{pins:List (Addr×Obj)}{σ:St}{H:Hp}{s:Shared}{p:Addr}{xs:List V}(I:Inv X pins σ H s)(h:H p=some (.lst xs)):
  ∃(its:List Value)(n:Nat),dR xs its/\s.heap.get? p=some { cls:=.type "list", data:=.seq its.toArray n }/\xs.length<=sizeLine:=by
 obtain⟨z,its,n,r,e⟩:=I.hok p _ h;exact⟨its,n,r,e,z⟩
theorem Inv.lstUpd{pins:List (Addr×Obj)}{σ:St}{H:Hp}{s:Shared}{p:Addr}{xs ys:List V}{its its':List Value}{n n':Nat}{f:Obj->Obj}(I:Inv X pins σ H s)(h:H p=some (.lst xs))
  (ho:s.heap.get? p=some { cls:=.type "list", data:=.seq its.toArray n }) (hf:f { cls:=.type "list", data:=.seq its.toArray n }={ cls:=.type "list", data:=.seq its'.toArray n' }) (r:dR ys its') (hz:ys.length<=sizeLine) (t:Nat):
  Inv X pins σ (upd H p (.lst ys)) { s with heap:=s.heap.update p f,toks:=t }:=by
 have e:(s.heap.update p f).get? p=some { cls:=.type "list", data:=.seq its'.toArray n' }:=by
  rw[Heap.get?_update_self f ho (by rw[hf]<;>rfl),hf]
 refine I.write (x:=p) (e:=p) (by rw[h];trivial) (.inl rfl) (fun b u hb q=>(Heap.get?_update_other _ _ (Ne.symm hb)).trans q) ⟨_,e⟩ ?_
 exact⟨hz,its',n',r,e⟩
def zQF:V->V->V->Hp->(Hp->Prop)->Prop:=fun o i v H Q=>∃ p xs k j,o=.ref p/\i=.int k/\H p=some (.lst xs)/\ixN xs.length k=some j/\Q (upd H p (.lst (xs.set j v)))
theorem zJN:zRh X zQF:=by
 intro pins s σ H o i v ov iv u Q I ro ri rv h;obtain⟨p,xs,k,j,rfl,rfl,hp,hj,q⟩:=h;cases ro;obtain⟨t,rfl⟩:=ri;obtain⟨its,n,r,ho,hz⟩:=I.lst hp;obtain⟨h1,h2,h3,h4⟩:=zHy hj;have hl:=r.length;have hn:=zEE
 have I':Inv X pins σ (upd H p (.lst (xs.set j v))) { s with heap:=s.heap.update p (Obj.mapSeq (·.setIfInBounds j u)) }:=
  I.lstUpd hp ho (zFK its n j u) (r.set rv j) (by rw[QH];exact hz) s.toks
 by_cases h0:0<=k
 ·have hk:k.toNat=j:=by
   rw[seqIndex_of h0 h4] at h1;exact QK h1
  exact PySem.W.ki_setAt ho h0 (by omega) (by rw[Qk,<-hl];exact h4) (by rw[hk];exact⟨_,I',q⟩)
 ·have hk:(k+(its.toArray.size:Int)).toNat=j:=by
   rw[seqIndex_neg (by omega) h3] at h1;rw[Qk,<-hl];exact QK h1
  exact PySem.W.ki_setBack ho (by omega) (by rw[Qk,<-hl];exact h3) (by omega) (by rw[hk];exact⟨_,I',q⟩)
theorem zBP(lo hi:Option Int)(n:Nat):(sliceBounds lo hi none n).1=((HT.sIx n 0 lo:Nat):Int)/\(sliceBounds lo hi none n).2.1=((HT.sIx n n hi:Nat):Int)/\(sliceBounds lo hi none n).2.2=1:=by
 refine⟨?_,?_,rfl⟩
 ·cases lo with
  | none=>simp[sliceBounds,HT.sIx]
  | some i=>
   simp only[sliceBounds,HT.sIx,Option.getD_none,show(1:Int) > 0 by decide,if_true];by_cases h:i < 0
   ·simp only[h,if_true]<;>omega
   ·simp only[h,if_false]<;>omega
 ·cases hi with
  | none=>simp[sliceBounds,HT.sIx]
  | some i=>
   simp only[sliceBounds,HT.sIx,Option.getD_none,show(1:Int) > 0 by decide,if_true];by_cases h:i < 0
   ·simp only[h,if_true]<;>omega
   ·simp only[h,if_false]<;>omega
theorem zZ(its:List Value)(lo hi:Option Int):slicePick its.toArray lo hi none=((its.drop (HT.sIx its.length 0 lo)).take (HT.sIx its.length its.length hi - HT.sIx its.length 0 lo)).toArray:=by
 obtain⟨h1,h2,h3⟩:=zBP lo hi its.toArray.size;unfold slicePick;rw[h1,h2,h3];simp only[sliceRange_one,pick_run,Qk]<;>rfl
def zRH(K:PySem.W.Frag):V->Option Int->Option Int->Hp->VK->Prop:=fun x lo hi H Q=>∃ a xs,x=.ref a/\SqL K H a xs/\∀ p,H p=none->Q (.ref p) (upd H p (.lst (zNF xs lo hi)))
theorem zNs:SlR X (zRH X.K):=by
 intro pins s σ H x v vl vu lo hi sl Q I rx hs pl pu h;obtain⟨a,xs,rfl,hx,q⟩:=h;cases rx;obtain⟨its,r,ht,hz⟩:=I.list hx;have hlen:=r.length;refine⟨"list", _,slot_list_getitem.lookup,ht.isList.typeIs,?_⟩
 refine wpAny_getItem_list_slice ht.isList hs pl pu .none (by simp) ?_ (by rw[Qk]<;>omega)
 rw[zZ,<-hlen];refine⟨.ref s.heap.objs.size,_,I.laid (t':=s.toks) (o:=.lst (zNF xs lo hi)) (fun b ob q=>Heap.get?_push_of_some _ q) (Qh _) ?_,rfl,q _ (I.hok.fresh (Qh _))⟩
 exact⟨QB (zDt xs lo hi) hz,_,0,(r.drop (HT.sIx xs.length 0 lo)).take (HT.sIx xs.length xs.length hi - HT.sIx xs.length 0 lo),Heap.get?_push_size _ rfl⟩
theorem aT:uO X (.builtin "len") (fun xs H Q=>∃ p ys,xs=[.ref p]/\(SqL X.K H p ys∨SqT X.K H p ys)/\Q (.int ys.length) H):=by
 intro pins s σ H xs us Q I r h;obtain⟨p,ys,rfl,hq,q⟩:=h;obtain⟨u,rfl,rx⟩:=zAN r;cases rx;have hn:=zEE;rcases hq with hq | hq
 ·obtain⟨its,r',pl,hz⟩:=I.list hq
  have hlen:=r'.length;exact Calls.call_len_list pl.isList (by simp only[Qk]<;>omega) ⟨.int ys.length,H,I.tok _,⟨s.toks+1,by rw[Qk,hlen]⟩,q⟩
 ·obtain⟨its,r',pl,hz⟩:=I.tuple hq
  have hlen:=r'.length;exact len_tuple pl (by simp only[Qk]<;>omega) ⟨.int ys.length,H,I.tok _,⟨s.toks+1,by rw[Qk,hlen]⟩,q⟩
theorem kZ:uO X (.type "tuple") (fun xs H Q=>∃ p ys,xs=[.ref p]/\((SqL X.K H p ys/\∀ l,H l=none->Q (.ref l) (upd H l (.tup ys)))∨(SqT X.K H p ys/\Q (.ref p) H))):=by
 intro pins s σ H xs us Q I r h;obtain⟨p,ys,rfl,h⟩:=h;obtain⟨u,rfl,rx⟩:=zAN r;cases rx;rcases h with⟨hq,q⟩ | ⟨hq,q⟩
 ·obtain⟨its,r',pl,hz⟩:=I.list hq
  have hlen:=r'.length;refine call_tuple_list pl.isList (fun h' kp=>?_) (by simp only[Qk]<;>omega)
  have I1:Inv X pins σ H { s with heap:=h' }:=I.kept (t':=s.toks) kp
  have I2:Inv X pins σ (upd H h'.objs.size (.tup ys)) { s with heap:=h'.push { cls:=.type "tuple", data:=.seq its.toArray } }:=
   I1.laid (t':=s.toks) (fun b o e=>Heap.get?_push_of_some _ e) (Qh _) (show lV X.prog X.w _ _ _ (.tup ys) from ⟨hz,its,r',IsTup.new _ _⟩)
  exact⟨.ref h'.objs.size,_,I2,rfl,q _ (I1.hok.fresh (Qh _))⟩
 ·obtain⟨its,r',pl,hz⟩:=I.tuple hq
  exact call_tuple_same pl ⟨.ref p,H,I,rfl,q⟩
def tyV(K:PySem.W.Frag)(T:String)(x:V)(H:Hp):Prop:=match x with
 | .str _=>T = "str"
 | .int _=>T = "int"
 | .ref p=>(T = "list" /\ ∃ xs,SqL K H p xs)∨(T = "tuple" /\ ∃ o,K.lookup p=some o/\o.cls=.type "tuple" /\ o.dict=none)∨
   (T = "dict" /\ ((∃ kvs,H p=some (.dK kvs))∨∃ kvs,H p=some (.dT kvs)))∨(T = "set" /\ ∃ S n,H p=some (.set S n))
 | _=>False
theorem zKA{pins:List (Addr×Obj)}{σ:St}{H:Hp}{s:Shared}{T:String}{x:V}{v:Value}(I:Inv X pins σ H s)(r:dE x v)(ty:tyV X.K T x H):
  s.TypeIs v T/\∀ a,v=.ref a->∃ ob,s.heap.get? a=some ob/\ob.dict=none:=by
 cases x with
 | str z=>
  obtain⟨t,rfl⟩:=r;cases (show T = "str" from ty)
  exact⟨typeIs_str s z t,fun _ e=>nomatch e⟩
 | int i=>
  obtain⟨t,rfl⟩:=r;cases (show T = "int" from ty)
  exact⟨typeIs_int s i t,fun _ e=>nomatch e⟩
 | ref p=>
  cases r;rcases ty with⟨rfl,xs,hq⟩ | ⟨rfl,o,hk,hc,hd⟩ | ⟨rfl,hk⟩ | ⟨rfl,S,n,hk⟩
  ·obtain⟨its,_,pl,_⟩:=I.list hq
   refine⟨pl.isList.typeIs,fun a e=>?_⟩
   cases e;obtain⟨o,n,e,c,hd,_⟩:=pl;exact⟨o,e,hd⟩
  ·refine⟨⟨o,I.kIn p o hk,hc⟩,fun a e=>?_⟩
   cases e;exact⟨o,I.kIn _ o hk,hd⟩
  ·have z:∃ o,s.heap.get? p=some o/\o.ExactDict:=by
    rcases hk with⟨kvs,hk⟩ | ⟨kvs,hk⟩
    ·obtain⟨_,_,_,_,o,_,_,e,ex,_⟩:=I.hok p _ hk
     exact⟨o,e,ex⟩
    ·obtain⟨_,_,_,_,o,_,_,e,ex,_⟩:=I.hok p _ hk
     exact⟨o,e,ex⟩
   obtain⟨o,e,ex⟩:=z;refine⟨⟨o,e,ex.1⟩,fun a e2=>?_⟩
   cases e2;exact⟨o,e,ex.2.1⟩
  ·obtain⟨o,_,_,_,e,ex,_⟩:=I.hok p _ hk
   refine⟨⟨o,e,ex.1⟩,fun a e2=>?_⟩
   cases e2;exact⟨o,e,ex.2.1⟩
 | _=>exact False.elim ty
abbrev zSb(K:PySem.W.Frag)(T:String)(r:V->List V->Hp->VK->Prop)(to:TE):TE:=fun σ H Q=>to σ H fun x H1=>tyV K T x H1/\r x [] H1 Q
abbrev tBM(K:PySem.W.Frag)(T:String)(r:V->List V->Hp->VK->Prop)(to:TE)(t:TA):TE:=fun σ H Q=>to σ H fun x H1=>tyV K T x H1/\t σ H1 fun xs H2=>r x xs H2 Q
variable{o e:Expr}{es:List Expr}{to:TE}{t:TA}{name:Str}{apos cpos:Pos}{T id:String}{r:V->List V->Hp->VK->Prop}
theorem zPi(pa:PlainAttrs T)(slot:Slot T name id)(hty:typeOf (.builtin id)=pure (.type "method_descriptor"))(hm:MtR X id r)(ho:PE X o to)
  (hbase:attributeBase o name X.env (eval o X.env)=eval o X.env:=by rfl) (hline:(apos.endLine==cpos.line)=true:=by rfl):PE X (.Call (.Attribute o name apos) [] [] cpos) (zSb X.K T r to):=by
 intro pins s σ H Q I h;refine wpAny_Call_method0_late hbase hline (thn (ho pins s σ H _ I h) fun v s1 ⟨x,H1,I1,r1,ty,q1⟩=>?_)
 obtain⟨h1,h2⟩:=zKA I1 r1 ty;exact⟨T,id,pa,slot,hty,h1,h2,Calls.callWith_builtin rfl (PySem.evalArgs_none (hm pins s1 σ H1 x [] v [] Q I1 r1 .nil q1))⟩
theorem zOj(pa:PlainAttrs T)(slot:Slot T name id)(hty:typeOf (.builtin id)=pure (.type "method_descriptor"))(hm:MtR X id r)(ho:PE X o to)(ha:PA X (e::es) t)
  (hbase:attributeBase o name X.env (eval o X.env)=eval o X.env:=by rfl)
  (hfew:((backTo cpos (starEach (e::es) X.env)).all (fun x=>!x.1) && (backToKw cpos (keywordEach [] X.env)).all (fun x=>x.1.isSome)
   && decide ((e::es).length+([]:List Keyword).length+(if ([]:List Keyword).isEmpty then 0 else 1) < 30))=true:=by rfl)
  (hline:(apos.endLine==cpos.line)=true:=by rfl) (hs:starEach (e::es) X.env=(false,eval e X.env)::starEach es X.env:=by rfl) (hplain:(backTo cpos (starEach es X.env)).any (·.1)=false:=by rfl):
  PE X (.Call (.Attribute o name apos) (e::es) [] cpos) (tBM X.K T r to t):=by
 intro pins s σ H Q I h;refine wpAny_Call_method_late hbase hfew hline rfl (thn (ho pins s σ H _ I h) fun v s1 ⟨x,H1,I1,r1,ty,q1⟩=>?_)
 obtain⟨h1,h2⟩:=zKA I1 r1 ty;refine⟨T,id,pa,slot,hty,h1,h2,?_⟩
 have hA:=ha cpos pins s1 σ H1 _ I1 q1;rw[hs] at hA ⊢
 refine Calls.callWith_builtin (by show(false || (backTo cpos (starEach es X.env)).any (·.1))=false;rw[hplain]<;>rfl) (Calls.evalArgs_plain ?_)
 exact thn hA fun us s2 ⟨vs,H2,I2,r2,q2⟩=>hm pins s2 σ H2 x vs v us Q I2 r1 r2 q2
end
def MtM(X:Cx)(id:String)(r:V->List V->Hp->VK->Prop):Prop:=
 ∀(pins:List (Addr×Obj))(s:Shared)(σ:St)(H:Hp)(x:V)(xs:List V)(v:Value)(us:List Value)(Q:VK),Inv X pins σ H s->dE x v->dR xs us->r x xs H Q->
  wpAny (model X.prog X.w) X.A (call (.builtin id) (v::us)) (EP X pins σ Q) X.xe s
theorem dR.one:∀ {x:V} {us:List Value},dR [x] us->∃ u,us=[u]/\dE x u
 | _,_,.cons r .nil=>⟨_,rfl,r⟩
theorem dR.zero:∀ {us:List Value},dR [] us->us=[]
 | _,.nil=>rfl
theorem dR.dropLast{xs:List V}{us:List Value}(h:dR xs us):dR xs.dropLast us.dropLast:=by
 induction h with
 | nil=>exact .nil
 | cons r t ih=>
  cases t with
  | nil=>exact .nil
  | cons q t'=>exact .cons r ih
theorem dR.rep{xs:List V}{us:List Value}(h:dR xs us):∀ k:Nat,dR (List.replicate k xs).flatten (List.replicate k us).flatten
 | 0=>.nil
 | k+1=>by
  rw[Vy,Vy,VI,VI];exact dR.append h (dR.rep h k)
theorem zFk{α:Type}(l:List α):l.eraseIdx (l.length - 1)=l.dropLast:=by
 induction l with
 | nil=>rfl
 | cons a r ih=>
  cases r with
  | nil=>rfl
  | cons b r=>
   have e:(a::b::r).length - 1=((b::r).length - 1)+1:=by
    have h1:(a::b::r).length=r.length+2:=rfl;have h2:(b::r).length=r.length+1:=rfl;omega
   rw[e,List.eraseIdx_cons_succ,ih]
   all_goals rfl
theorem zBd(its:List Value):∀(k:Nat)(acc:List Value),
  List.foldl (fun x1 x2=>x1++x2) acc.toArray (List.replicate k its.toArray)=(acc++(List.replicate k its).flatten).toArray
 | 0,acc=>by simp
 | k+1,acc=>by
  have e:acc.toArray++its.toArray=(acc++its).toArray:=by simp
  have e2:(acc++its)++(List.replicate k its).flatten=acc++(List.replicate (k+1) its).flatten:=by
   rw[Vy,VI,Q9]
  rw[<-e2,<-zBd its k (acc++its),<-e,Vy,XB]
section
variable{X:Cx}{pins:List (Addr×Obj)}{σ:St}{H:Hp}{s:Shared}{l b:Addr}{xs ys zs:List V}
theorem Inv.lset{its its':List Value}{n:Nat}{f:Array Value->Array Value}{t':Nat}(I:Inv X pins σ H s)(hH:H l=some (.lst xs))
  (e:s.heap.get? l=some { cls:=.type "list", data:=.seq its.toArray n }) (hf:f its.toArray=its'.toArray) (hv:dR ys its') (hz:ys.length<=sizeLine):
  Inv X pins σ (upd H l (.lst ys)) { s with heap:=s.heap.update l (Obj.mapSeq f),toks:=t' }:=by
 have q:=PySem.IsL.update e f;rw[hf] at q;refine I.write (x:=l) (e:=l) (by rw[hH];exact trivial) (.inl rfl) (fun b' u hb hu=>(Heap.get?_update_other s.heap (Obj.mapSeq f) (Ne.symm hb)).trans hu) ⟨_,q⟩ ?_
 exact⟨hz,its',_,hv,q⟩
theorem Inv.lnew{its:List Value}{t':Nat}(I:Inv X pins σ H s)(hv:dR ys its)(hz:ys.length<=sizeLine):
  Inv X pins σ (upd H s.heap.objs.size (.lst ys)) { s with heap:=s.heap.push { cls:=.type "list", data:=.seq its.toArray },toks:=t' }:=
 I.laid (fun _ _ q=>Heap.get?_push_of_some _ q) (Qh _) ⟨hz,its,0,hv,Heap.get?_push_size _ rfl⟩
theorem Inv.fresh(I:Inv X pins σ H s):H s.heap.objs.size=none:=I.hok.fresh (Qh _)
theorem Inv.lstM(I:Inv X pins σ H s)(hH:H l=some (.lst xs)):xs.length<=sizeLine/\∃(its:List Value)(n:Nat),dR xs its/\xs.length=its.length/\s.heap.get? l=some { cls:=.type "list", data:=.seq its.toArray n }:=by
 obtain⟨z,its,n,r,e⟩:=I.hok l _ hH;exact⟨z,its,n,r,r.length,e⟩
theorem zEo{n:Nat}(h:n<=sizeLine):Builtin.List.listTooLong n=false:=by
 unfold Builtin.List.listTooLong;exact decide_eq_false (by omega)
end
section
variable{X:Cx}
def zLE:V->List V->Hp->VK->Prop:=fun x vs H Q=>∃ l xs y,x=.ref l/\vs=[y]/\H l=some (.lst xs)/\xs.length < sizeLine/\Q .non (upd H l (.lst (xs++[y])))
theorem vF:MtM X "list.append" zLE:=by
 intro pins s σ H x vs v us Q I rx rv h;obtain⟨l,xs,y,rfl,rfl,hH,hz,q⟩:=h;cases rx;obtain⟨u,rfl,ru⟩:=rv.one;obtain⟨z,its,n,r,hl,e⟩:=I.lstM hH;refine call_meets F.slot_list_append ⟨_,e,rfl⟩ F.entry_list_append (F.args_list_append_2 _ _) (PySem.list_append l its.toArray n u (by rw[Qk];omega)) ⟨e,?_⟩
 refine⟨.non,_,I.lset (its':=its++[u]) hH e (by simp) (r.append (.cons ru .nil)) ?_,rfl,q⟩
 rw[Ql,XC];omega
def zLD:V->List V->Hp->VK->Prop:=fun x vs H Q=>∃ l b xs zs,x=.ref l/\vs=[.ref b]/\H l=some (.lst xs)/\H b=some (.lst zs)/\xs.length+zs.length<=sizeLine/\Q .non (upd H l (.lst (xs++zs)))
theorem zIc:MtM X "list.extend" zLD:=by
 intro pins s σ H x vs v us Q I rx rv h;obtain⟨l,b,xs,zs,rfl,rfl,hH,hB,hz,q⟩:=h;cases rx;obtain⟨u,rfl,ru⟩:=rv.one;cases ru;obtain⟨z,its,n,r,hl,e⟩:=I.lstM hH;obtain⟨z2,its2,n2,r2,hl2,e2⟩:=I.lstM hB;have hsz:its.toArray.size+its2.toArray.size<=sizeLine:=by rw[Qk,Qk];omega
 have hlong:¬ (!its.toArray.isEmpty && Builtin.List.listTooLong (its.toArray.size+its2.toArray.size))=true:=by
  rw[zEo hsz,Bool.and_false];exact V9
 refine call_meets F.slot_list_extend ⟨_,e,rfl⟩ F.entry_list_extend (F.args_list_extend_2 _ _)
  (AutoSeq1.list_extend_list_list_0 l its.toArray n b its2.toArray n2 hlong (by rw[Qk];omega) (by omega)) ⟨e,e2,?_⟩
 refine⟨.non,_,I.lset (its':=its++its2) hH e (by simp) (r.append r2) ?_,rfl,q⟩
 rw[Ql];omega
def zRE:V->List V->Hp->VK->Prop:=fun x vs H Q=>∃ l xs y,x=.ref l/\vs=[]/\H l=some (.lst xs)/\xs[xs.length - 1]?=some y/\Q y (upd H l (.lst xs.dropLast))
theorem zOa:MtM X "list.pop" zRE:=by
 intro pins s σ H x vs v us Q I rx rv h;obtain⟨l,xs,y,rfl,rfl,hH,hy,q⟩:=h;cases rx;have hus:=rv.zero;subst hus;obtain⟨z,its,n,r,hl,e⟩:=I.lstM hH;obtain⟨u,hu,ru⟩:=r.get hy
 have hy':its.toArray[its.toArray.size - 1]?=some u:=by
  show its.toArray[its.length - 1]?=some u
  rw[<-XD,<-hl];exact hu
 refine call_meets F.slot_list_pop ⟨_,e,rfl⟩ F.entry_list_pop (F.args_list_pop_1 _) (MeetsSeq.list_pop_last l its.toArray n u hy' (by rw[Qk];omega)) ⟨e,?_⟩
 refine⟨y,_,I.lset (its':=its.dropLast) hH e ?_ r.dropLast ?_,ru,q⟩
 ·show its.toArray.eraseIdxIfInBounds (its.toArray.size - 1)=its.dropLast.toArray
  rw[Qk,List.eraseIdxIfInBounds_toArray,zFk]
 ·rw[List.length_dropLast]
  omega
def zRJ:R2:=fun x y H Q=>∃ l k xs,x=.ref l/\y=.int k/\H l=some (.lst xs)/\-(2^63)<=k/\k < 2^63/\xs.length * k.toNat<=sizeLine/\
 ∀ p,H p=none->Q (.ref p) (upd H p (.lst (List.replicate k.toNat xs).flatten))
theorem zLY{α:Type}(xs:List α)(k:Nat):(List.replicate k xs).flatten.length=k * xs.length:=by
 induction k with
 | zero=>simp
 | succ k ih=>rw[Vy,VI,Ql,ih,Nat.succ_mul,XF]
theorem zPA:OpR X (binaryOp .Mult) zRJ:=by
 intro pins s σ H x y v u Q I rx ry h;obtain⟨l,k,xs,rfl,rfl,hH,h1,h2,hz,q⟩:=h;cases rx;obtain⟨t,rfl⟩:=ry;obtain⟨z,its,n,r,hl,e⟩:=I.lstM hH;have hlen:its.toArray.size * k.toNat<=sizeLine:=by rw[Qk,<-hl];exact hz
 have hcap:¬ its.toArray.size * k.toNat > (2^63 - 1) / 8:=by
  have:(sizeLine:Nat)<=(2^63 - 1) / 8:=by decide
  omega
 have hfit:¬ (!Builtin.List.listFitsIndex k)=true:=by
  rw[fitsIndex_both h1 h2];exact V9
 have hlong:¬ Builtin.List.listTooLong (its.toArray.size * k.toNat)=true:=by
  rw[zEo hlen];exact V9
 have hnew:List.foldl (fun x1 x2=>x1++x2) #[] (List.replicate (if its.toArray.isEmpty=true then 0 else k.toNat) its.toArray)=(List.replicate k.toNat its).flatten.toArray:=by
  have f0:∀ m:Nat,List.foldl (fun x1 x2=>x1++x2) #[] (List.replicate m its.toArray)=(List.replicate m its).flatten.toArray:=fun m=>by
   have:=zBd its m []
   rw[Vz] at this;exact this
  rw[f0]
  cases its with
  | nil=>simp
  | cons a r'=>rw[if_neg (by simp)]
 refine wpAny_binaryOp_repeat_ref (T := "list") (U := "int") (by decide) ⟨_,e,rfl⟩ (fun s'=>typeIs_int s' k t) noFill_list_mul F.fills_int_mul F.slot_int_rmul repeat_list F.slot_int_index.lookup
  (call_meets F.slot_int_rmul (typeIs_int s k t) F.entry_int_rmul (F.args_int_rmul_2 _ _) (int___rmul___int_list k t l its.toArray n)
   ⟨e,rfl,⟨_,e,rfl⟩,call_meets F.slot_list_mul ⟨_,e,rfl⟩ F.entry_list_mul (F.args_list_mul_2 _ _) (AutoListH.list___mul___list_int_3 l its.toArray n k t hfit hcap hlong) ⟨e,?_⟩⟩)
 rw[hnew];exact⟨.ref _,_,I.lnew (t':=s.toks) (r.rep k.toNat) (by rw[zLY,Nat.mul_comm];exact hz),rfl,q _ I.fresh⟩
end
section
variable{prog:Program}{w:World}{A:Around}{E:Value->Shared->Prop}{s:Shared}
set_option maxRecDepth 100000 in
end
section
variable{X:Cx}
end
end L2
namespace Att
open PySem PySem.W PySem.Calls PyProof.Rows
theorem uY{P:Params}{h:Heap}:∀(ns:List Int)(vs:List Value),WellAll P h vs (ns.map WData.int)->IntsAre vs ns:=by
 intro ns
 induction ns with
 | nil=>
  intro vs w;rw[Vo] at w;cases w;exact .nil
 | cons n ns ih=>
  intro vs w;rw[Qv] at w
  cases w with
  | cons a b=>
   cases a;exact .cons _ _ (ih _ b)
theorem script_of{l:OpenLaw}{n:Nat}(hn:l.most=some n){P:Params}{h:Heap}{args:List WData}{vals:List Value}
  (hpre:l.row.toRowW.claim.pre args=true) (hwl:WellAll P h vals args):
  ∃ a vs ns,vals=[Value.ref a]/\args=[WData.list (ns.map WData.int)]/\h.get? a=some { cls:=.type "list", data:=.seq vs.toArray }/\IntsAre vs ns/\ns.length<=n:=by
 have hsh:WShape.hasAll [] args [.list .int]=true:=(pre_splitW hpre).1;have hc:l.pre.holds [] { args:=args }=true:=(pre_splitW hpre).2;obtain⟨d,r,rfl,h1,h2⟩:=hasAllW_cons hsh;obtain rfl:=hasAllW_nil h2;obtain⟨xs,rfl,h3⟩:=hasW_list h1;obtain⟨ns,rfl⟩:=items_int h3
 have hlen:ns.length<=n:=by
  unfold OpenLaw.pre at hc
  have h4:(WTm.not (.lt (.lit (.int (n:Int))) (.len (.arg 0)))).holds [] { args:=[.list (ns.map .int)] }=true:=by
   have h4:=(holds_andW hc).1;rw[hn] at h4;exact h4
  have h5:=condW_of h4 (w_not (w_lt w_lit (w_len_list (w_arg rfl))));rw[Qg] at h5;refine Nat.le_of_not_lt fun q=>?_
  have q':(n:Int) < ((ns.length:Nat):Int):=by omega
  first
   | (rw[decide_eq_true q'] at h5;exact absurd h5 (by decide))
   | (simp at h5;omega)
 cases hwl with
 | cons w1 w2=>
  cases w2
  cases w1 with
  | list ho hall=>exact⟨_,_,ns,rfl,rfl,ho,uY ns _ hall,hlen⟩
theorem post_true(l:OpenLaw)(args:List WData):l.row.toRowW.claim.post args (.bool true) args=true:=
 postW_of (r:=l.row.toRowW) (X:=(true==true))
  (show WShape.has [] (.bool true) .bool=true by first | rfl | decide | simp[WShape.has,WShape.arms,WShape.armsAll])
  (show(WTm.eq .res (.lit (.bool true))).value [] { args:=args,res:=some (.bool true),after:=args }=some (.bool (true==true)) from w_eq_bool (w_res rfl) w_lit) rfl
section
variable{prog:Program}{w:World}{A:Around}{E:Value->Shared->Prop}{s:Shared}{K:Frag}
end
end Att
namespace L2
open PySem PySem.Spec PyProof.Rows
theorem zBC:∀ {vs:List Value} {ns:List Int},IntsAre vs ns->dR (ns.map V.int) vs
 | _,_,.nil=>.nil
 | _,_,.cons n t h=>.cons ⟨t,rfl⟩ (zBC h)
def zRN(H:Hp):Prop:=∀ b,H b=none∨∃ o xs,H b=some (.frz o (.lst xs))
def jU(s:Stmt):Arguments:=match s with
 | .FunctionDef _ a _ _ _ _ _ _ _ _=>a
 | _=>{ posonlyargs:=[],args:=[],vararg:=none,kwonlyargs:=[],kw_defaults:=[],kwarg:=none,defaults:=[] }
def fR(s:Stmt):List Stmt:=match s with
 | .FunctionDef _ _ b _ _ _ _ _ _ _=>b
 | _=>[]
def aI(s:Stmt):Scope:=match s with
 | .FunctionDef _ _ _ _ _ _ sc _ _ _=>sc
 | _=>{ kind:=.function,names:=[],isGenerator:=false,isCoroutine:=false }
structure Fun (K:PySem.W.Frag) (x qual:Str) (st:Stmt) (f:Addr) (fd:FuncData):Prop where
 ex:∃(oc:Value)(od:Option Addr)(kV doc pm:Value)(an:Option Addr)(cdv ct:Value)(osl:Array (Option Value)),
  fd=PySem.W.fnOf x qual (jU st) (fR st) (aI st) .none kV doc pm an cdv ct/\K.lookup f=some ⟨oc,od,.func fd,osl⟩/\PySem.W.codeIn K cdv qual=true
 kp:PySem.W.keepIn K (.ref f)=true
section
variable{P:Program}{w:World}{K:PySem.W.Frag}{mg:Str->Option Value}{base:Heap}
theorem Fun.binds{x qual:Str}{st:Stmt}{f:Addr}{fd:FuncData}{ps:List Str}(F:Fun K x qual st f fd)
  (h:∀(kV doc pm:Value)(an:Option Addr)(cdv ct:Value)(us:List Value),us.length=ps.length->bindArgs (PySem.W.fnOf x qual (jU st) (fR st) (aI st) .none kV doc pm an cdv ct) ⟨us,[]⟩=pure (ps.zip us)):zCi K fd ps []:=by
 obtain⟨oc,od,kV,doc,pm,an,cdv,ct,osl,rfl,lk,hcd⟩:=F.ex;exact .all (h kV doc pm an cdv ct)
theorem xF{x qual:Str}{st:Stmt}{f:Addr}{oc:Value}{od an:Option Addr}{osl:Array (Option Value)}{kV doc pm cdv ct:Value}(l:K.lookup f=some ⟨oc,od,.func (PySem.W.fnOf x qual (jU st) (fR st) (aI st) .none kV doc pm an cdv ct),osl⟩)
  (c:PySem.W.codeIn K cdv qual=true) (k:PySem.W.keepIn K (.ref f)=true):Fun K x qual st f (PySem.W.fnOf x qual (jU st) (fR st) (aI st) .none kV doc pm an cdv ct):=⟨⟨oc,od,kV,doc,pm,an,cdv,ct,osl,rfl,l,c⟩,k⟩
end
section
variable{X:Cx}
theorem pv(i:Nat){x:Str}{pos:Pos}(hN:X.N[i]?=some x:=by rfl)(hv:Vis X.env.scope x:=by first | exact Or.inl rfl | exact Or.inr (Or.inl rfl) | exact Or.inr (Or.inr rfl))(hd:(x==("__debug__" : Str))=false:=by decide)
  (hcd:(x==("__classdict__" : Str))=false:=by decide):PE X (.Name x pos) (zEc i):=tY hN hv hd hcd
end
def Same(H H':Hp):Prop:=∀ b o,H b=some o->H' b=some o
theorem Same.refl(H:Hp):Same H H:=fun _ _ h=>h
theorem Same.trans{H H1 H2:Hp}(a:Same H H1)(b:Same H1 H2):Same H H2:=fun c o h=>b c o (a c o h)
end L2
set_option maxHeartbeats 4000000
set_option exponentiation.threshold 20000
namespace L2
open PySem PySem.Spec PyProof.Rows
section
variable{X:Cx}
variable{tg:Expr}
end
section
variable{P:Program}{w:World}{H H':Hp}{h:Heap}{a:Addr}{o:HO}
theorem lV.here(x:lV P w H h a o):∃ ob,h.get? a=some ob:=by
 cases o with
 | lst xs=>obtain⟨_,_,_,_,e⟩:=x;exact⟨_,e⟩
 | tup xs=>obtain⟨_,_,_,e⟩:=x;obtain⟨ob,e,_⟩:=e;exact⟨_,e⟩
 | dK kvs=>obtain⟨_,_,_,_,e⟩:=x;obtain⟨ob,_,_,e,_⟩:=e;exact⟨_,e⟩
 | dT kvs=>obtain⟨_,_,_,_,ob,_,_,e,_⟩:=x;exact⟨_,e⟩
 | set S n=>obtain⟨ob,_,_,_,e,_⟩:=x;exact⟨_,e⟩
 | ins C dx fs=>obtain⟨_,_,_,e,_⟩:=x;exact⟨_,e⟩
 | own y=>exact x
 | xd fs=>obtain⟨_,⟨ob,_,_,e,_⟩,_⟩:=x;exact⟨_,e⟩
 | met f y=>exact⟨_,x⟩
 | rng lo hi=>obtain⟨_,_,_,e⟩:=x;exact⟨_,e⟩
 | frz ob u=>exact⟨_,x.1⟩
 | tbl ps=>exact⟨_,x⟩
 | ext φ=>exact x.2.1
theorem HOk.none_of(ok:HOk P w H h)(e:h.get? a=none):H a=none:=by
 cases q:H a with
 | none=>rfl
 | some o=>
  obtain⟨ob,z⟩:=(ok a o q).here;rw[e] at z;cases z
end
structure Fly (P:Program) (w:World) (l:List Env) (H H':Hp) (s:Shared) (ea:Addr) (cls:Value) (s':Shared):Prop where
 os:s'.os=s.os
 bare:AllBare s'.gens
 un:Un (frs l) [] H H' s.heap s'.heap
 hok:HOk P w H' s'.heap
 ne:H' ea=none
 new:s.heap.get? ea=none
 fly:∃ B a0,Heap.FlyingW B l ea cls a0 s'.heap/\(∀ b o,s'.heap.get? b=some o->((∃ o',s.heap.get? b=some o')∨H' b≠none)->b∉frs l->B.get? b=some o)
def CX1(P:Program)(w:World):CXT:=fun outer H s E e s'=>∃ ea cls H',e=.ref ea/\Fly P w outer H H' s ea cls s'/\E cls none H'
structure Own (X:Cx):Prop where
 stk:X.stack=X.env::X.outer
 fr:X.env.frame=some X.env.locals
 ex:X.ex=[]
section
variable{X:Cx}{pins:List (Addr×Obj)}{σ:St}{H H':Hp}{s s':Shared}{ea:Addr}{cls:Value}
theorem zET(O:Own X):frs X.stack=X.env.locals::X.fs:=by
 rw[O.stk];show List.filterMap _ (_::_)=_
 rw[Xg,O.fr];rfl
theorem Inv.there0(I:Inv X pins σ H s)(O:Own X){b:Addr}{o:Obj}(e:X.s₀.heap.get? b=some o):∃ o',s.heap.get? b=some o':=I.base.there b o e (by rw[O.ex];simp)
theorem Inv.ne0(I:Inv X pins σ H s){b:Addr}{o:Obj}(e:X.s₀.heap.get? b=some o):b≠X.env.locals:=Qs (Qo (Heap.lt_size e) I.ok.above)
theorem Fly.leave(I:Inv X pins σ H s)(O:Own X)(F:Fly X.prog X.w X.stack H H' s ea cls s'){h':Heap}{B:Heap}{a0:Value}
  (hf:Heap.FlyingW B X.stack ea cls a0 s'.heap) (cov:∀ b o,s'.heap.get? b=some o->((∃ o',s.heap.get? b=some o')∨H' b≠none)->b∉frs X.stack->B.get? b=some o)
  (hf':Heap.FlyingW B X.outer ea cls a0 h') (up:s'.heap.UpToSlots h'):Fly X.prog X.w X.outer X.H₀ H' X.s₀ ea cls { s' with heap:=h' }:=by
 have fst:frs X.stack=X.env.locals::X.fs:=zET O;have nin:∀ {b:Addr},b≠X.env.locals->b∉X.fs->b∉frs X.stack:=fun h1 h2=>by rw[fst];simp[h1,h2]
 have trk:∀ {b:Addr},H' b≠none->b∉frs X.stack:=fun {b} hb hm=>by
  have h1:=I.stkFree b hm;obtain⟨_,o,ho,_⟩:=I.stack.mem hm;exact hb (F.un.free b o ho h1 (by simp))
 have keepB:∀ {b:Addr} {o:Obj},s'.heap.get? b=some o->((∃ o',s.heap.get? b=some o')∨H' b≠none)->b∉frs X.stack->h'.get? b=some o:=fun e1 e2 e3=>hf'.1 _ _ (cov _ _ e1 e2 e3)
 have slotOf:∀ {b:Addr} {o:Obj},b∈frs X.stack->s'.heap.get? b=some o->∃ sl,h'.get? b=some { o with slots:=sl }:=fun {b o} hm e=>by
  obtain⟨_,o',ho',hn⟩:=hf.2.2.1.mem hm;rw[e] at ho';cases ho'
  exact up b o e hn
 refine⟨F.os.trans I.os,F.bare,⟨?_,?_,?_,?_,?_,?_,?_⟩,?_,F.ne,?_,⟨B,a0,hf',?_⟩⟩
 ·intro b o e n hb hx
  have e1:=I.base.keep b o e n hb (by rw[O.ex];simp)
  have n1:=I.base.free b o e n (by rw[O.ex];simp)
  have hs:b∉frs X.stack:=nin (I.ne0 e) hb;exact keepB (F.un.keep b o e1 n1 hs (by simp)) (.inl ⟨o,e1⟩) hs
 ·intro b o e n hb hx
  obtain⟨sl,e1⟩:=I.base.slot b o e n hb (by rw[O.ex];simp)
  have n1:=I.base.free b o e n (by rw[O.ex];simp)
  have hs:b∈frs X.stack:=by rw[fst];exact Qc _ hb
  obtain⟨sl2,e2⟩:=F.un.slot b _ e1 n1 hs (by simp)
  obtain⟨sl3,e3⟩:=slotOf hs e2;exact⟨sl3,e3⟩
 ·intro b o e n hx
  obtain⟨o1,e1⟩:=I.there0 O e;exact F.un.free b o1 e1 (I.base.free b o e n (by rw[O.ex];simp)) (by simp)
 ·intro b o e hx
  obtain⟨o1,e1⟩:=I.there0 O e;obtain⟨o2,e2⟩:=F.un.there b o1 e1 (by simp)
  by_cases hs:b∈frs X.stack
  ·obtain⟨sl,e3⟩:=slotOf hs e2
   exact⟨_,e3⟩
  ·exact⟨o2,keepB e2 (.inl ⟨o1,e1⟩) hs⟩
 ·exact fun b xs e=>F.un.tups b xs (I.base.tups b xs e)
 ·exact fun b o u e=>F.un.frzs b o u (I.base.frzs b o u e)
 ·intro b ps e
  obtain⟨m1,e1⟩:=I.base.tbls b ps e;obtain⟨m2,e2⟩:=F.un.tbls b _ e1;exact⟨m1++m2,by rw[e2,Array.append_assoc]⟩
 ·intro a o e
  refine(F.hok a o e).stay (fun b u hb z=>?_) (fun b z=>z) (fun b xs z=>z)
  have hb':H' b≠none:=by
   rcases hb with rfl | hb
   ·rw[e];simp
   ·rw[hb];simp
  exact keepB z (.inr hb') (trk hb')
 ·show X.s₀.heap.get? ea=none
  cases q:X.s₀.heap.get? ea with
  | none=>rfl
  | some o=>
   obtain⟨o1,e1⟩:=I.there0 O q;rw[F.new] at e1;cases e1
 ·intro b o e c hb
  have c':(∃ o',s.heap.get? b=some o')∨H' b≠none:=by
   rcases c with⟨o',c⟩ | c
   ·exact .inl (I.there0 O c)
   ·exact .inr c
  have hs:b∉frs X.stack:=by
   rcases c with⟨o',c⟩ | c
   ·exact nin (I.ne0 c) hb
   ·exact trk c
  have ex:∃ o2,s'.heap.get? b=some o2:=by
   rcases c' with⟨o',c1⟩ | c1
   ·exact F.un.there b o' c1 (by simp)
   ·cases q:H' b with
    | none=>exact absurd q c1
    | some u=>exact(F.hok b u q).here
  obtain⟨o2,e2⟩:=ex;have z:=keepB e2 c' hs;have z':h'.get? b=some o:=e;rw[z] at z';cases z'
  exact cov b o e2 c' hs
end
section
variable{X:Cx}{pins:List (Addr×Obj)}{σ:St}{H H':Hp}{s s':Shared}{ea:Addr}{cls:Value}
theorem zPp(l:List Env):∀ env∈l,∀ b,env.frame=some b->b∈frs l:=fun env he b hb=>Xx.mpr ⟨env,he,hb⟩
theorem Fly.made(I:Inv X pins σ H s)(O:Own X){vs:List Value}(hx:Heap.MadeExcOf s.heap s'.heap ea cls vs)(hos:s'.os=s.os)(hg:AllBare s'.gens){h':Heap}{t:Addr}
  (hf':Heap.FlyingW (PySem.W.hideAll s.heap (frs X.stack)) X.outer ea cls (.ref t) h') (up:s'.heap.UpToSlots h'):Fly X.prog X.w X.outer X.H₀ H X.s₀ ea cls { s' with heap:=h' }:=by
 have fst:frs X.stack=X.env.locals::X.fs:=zET O;have nin:∀ {b:Addr},b≠X.env.locals->b∉X.fs->b∉frs X.stack:=fun h1 h2=>by rw[fst];simp[h1,h2]
 have trk:∀ {b:Addr},H b≠none->b∉frs X.stack:=fun {b} hb hm=>hb (I.stkFree b hm)
 have keepB:∀ {b:Addr} {o:Obj},s.heap.get? b=some o->b∉frs X.stack->h'.get? b=some o:=fun e1 e3=>hf'.1 _ _ (Xw _ e1 e3)
 have slotOf:∀ {b:Addr} {o:Obj},b∈frs X.stack->s.heap.get? b=some o->∃ sl,h'.get? b=some { o with slots:=sl }:=fun {b o} hm e=>by
  obtain⟨_,o',ho',hn⟩:=I.stack.mem hm;rw[e] at ho';cases ho'
  exact up b o (hx.keeps b o e) hn
 refine⟨hos.trans I.os,hg,⟨?_,?_,?_,?_,?_,?_,?_⟩,?_,?_,?_,⟨_,_,hf',?_⟩⟩
 ·intro b o e n hb hx'
  exact keepB (I.base.keep b o e n hb (by rw[O.ex];simp)) (nin (I.ne0 e) hb)
 ·intro b o e n hb hx'
  obtain⟨sl,e1⟩:=I.base.slot b o e n hb (by rw[O.ex];simp)
  have hs:b∈frs X.stack:=by rw[fst];exact Qc _ hb
  obtain⟨sl3,e3⟩:=slotOf hs e1;exact⟨sl3,e3⟩
 ·exact fun b o e n hx'=>I.base.free b o e n (by rw[O.ex];simp)
 ·intro b o e hx'
  obtain⟨o1,e1⟩:=I.there0 O e;by_cases hs:b∈frs X.stack
  ·obtain⟨sl,e3⟩:=slotOf hs e1
   exact⟨_,e3⟩
  ·exact⟨o1,keepB e1 hs⟩
 ·exact fun b xs e=>I.base.tups b xs e
 ·exact fun b o u e=>I.base.frzs b o u e
 ·exact fun b ps e=>I.base.tbls b ps e
 ·intro a o e
  refine(I.hok a o e).stay (fun b u hb z=>?_) (fun b z=>z) (fun b xs z=>z)
  have hb':H b≠none:=by
   rcases hb with rfl | hb
   ·rw[e];simp
   ·rw[hb];simp
  exact keepB z (trk hb')
 ·exact I.hok.none_of hx.new
 ·show X.s₀.heap.get? ea=none
  cases q:X.s₀.heap.get? ea with
  | none=>rfl
  | some o=>
   obtain⟨o1,e1⟩:=I.there0 O q;rw[hx.new] at e1;cases e1
 ·intro b o e c hb
  have hs:b∉frs X.stack:=by
   rcases c with⟨o',c⟩ | c
   ·exact nin (I.ne0 c) hb
   ·exact trk c
  have ex:∃ o2,s.heap.get? b=some o2:=by
   rcases c with⟨o',c1⟩ | c1
   ·exact I.there0 O c1
   ·cases q:H b with
    | none=>exact absurd q c1
    | some u=>exact(I.hok b u q).here
  obtain⟨o2,e2⟩:=ex;have z:=keepB e2 hs;have z':h'.get? b=some o:=e;rw[z] at z';cases z'
  exact Xw _ e2 hs
end
section
variable{CX:CXT}{P:Program}{w:World}{K:PySem.W.Frag}{mg:Str->Option Value}{base:Heap}{N:List Str}{qual:Str}{scope:Scope}{f:Addr}{cd:Value}{A:Around}{outer:List Env}{s₀:Shared}{H₀:Hp}{E:XK}
theorem zKQ:Own (zFc CX P w K mg base N qual scope f cd A outer s₀ H₀ E):=⟨rfl,rfl,rfl⟩
theorem zQk{E':XK}(h:∀ c H',E' c none H'->E c none H'):zEM (CX1 P w) (zFc (CX1 P w) P w K mg base N qual scope f cd A outer s₀ H₀ E) E':=by
 intro pins σ H s e s' I hc;obtain⟨ea,cls,H',rfl,F,q⟩:=hc;obtain⟨B,a0,hf,cov⟩:=F.fly;have O:Own (zFc (CX1 P w) P w K mg base N qual scope f cd A outer s₀ H₀ E):=zKQ;exact wpAny_leaves_onW (I.ok.frames.trans (congrArg some O.stk)) O.fr hf fun h' hf' up=>⟨ea,cls,H',rfl,F.leave I O hf cov hf' up,h _ _ q⟩
theorem zCy{pins:List (Addr×Obj)}{σ:St}{H:Hp}{s s':Shared}{ea:Addr}{cls:Value}{vs:List Value}(I:Inv (zFc (CX1 P w) P w K mg base N qual scope f cd A outer s₀ H₀ E) pins σ H s)
  (hx:Heap.MadeExcOf s.heap s'.heap ea cls vs) (hos:s'.os=s.os) (hg:AllBare s'.gens) (q:E cls none H):(zFc (CX1 P w) P w K mg base N qual scope f cd A outer s₀ H₀ E).xe (.ref ea) s':=by
 have O:Own (zFc (CX1 P w) P w K mg base N qual scope f cd A outer s₀ H₀ E):=zKQ;have hst:=O.stk
 exact wpAny_leaves_madeW (base:=PySem.W.hideAll s.heap (frs (zFc (CX1 P w) P w K mg base N qual scope f cd A outer s₀ H₀ E).stack)) (h:=s.heap) (I.ok.frames.trans (congrArg some O.stk)) O.fr (fun b o z=>PySem.W.of_hideAll _ z)
  (PySem.W.funFrames_hide (I.stack) (zPp _)) hx fun h' t hf' _ _ up=>⟨ea,cls,H,rfl,Fly.made I O hx hos hg hf' up,q⟩
end
structure Err (K:PySem.W.Frag) (mg:Str->Option Value) (x:Str) (C:Addr):Prop where
 own:∀ h:Heap,K.In h->∃ bm newId B initId,OwnCls x C bm newId mg h/\ExcBaseFacts B newId initId bm
end L2
namespace L3
open PySem
inductive D where
 | non | bl (b:Bool) | int (i:Int) | str (x:Str) | tup (ds:List D) | lst (ds:List D)
inductive Res (α:Type) where
 | ok (a:α) | err (c:Str) | no
def Res.bind{α β:Type}(x:Res α)(f:α->Res β):Res β:=match x with
 | .ok a=>f a
 | .err c=>.err c
 | .no=>.no
inductive Sl where
 | un | val (d:D) | own (ds:List D) | exc (c:Str) | tab (T:List (Str×Str))
abbrev Rho:=List Sl
inductive Rt where
 | v (d:D) | f (ds:List D)
def Rt.d:Rt->D
 | .v d=>d
 | .f ds=>.lst ds
inductive Fl where
 | nx (ρ:Rho) | ret (r:Rt) | brk (ρ:Rho) | ctn (ρ:Rho)
abbrev Ev:=Rho->Res D
abbrev Fv:=Rho->Res (List D)
abbrev Tv:=Rho->Res Bool
abbrev Sv:=Rho->Res Fl
abbrev Mir:=List D->Res Rt
mutual
def eqD:D->D->Bool
 | .non,.non=>true
 | .bl a,.bl b=>a==b
 | .bl a,.int b=>(if a then 1 else 0)==b
 | .int a,.bl b=>a==(if b then 1 else 0)
 | .int a,.int b=>a==b
 | .str a,.str b=>a==b
 | .tup ds,.tup es=>zFY ds es
 | .lst ds,.lst es=>zFY ds es
 | _,_=>false
def zFY:List D->List D->Bool
 | [],[]=>true
 | d::ds,e::es=>eqD d e && zFY ds es
 | _,_=>false
end
mutual
def dep:D->Nat
 | .tup ds=>depS ds+1
 | .lst ds=>depS ds+1
 | _=>0
def depS:List D->Nat
 | []=>0
 | d::ds=>max (dep d) (depS ds)
end
mutual
def noL:D->Bool
 | .tup ds=>noLs ds
 | .lst _=>false
 | _=>true
def noLs:List D->Bool
 | []=>true
 | d::ds=>noL d && noLs ds
end
theorem vP:∀ {ds:List D} {d:D},d∈ds->dep d<=depS ds
 | e::ds,d,h=>by
  rw[depS];rcases Qe.mp h with rfl | h
  ·exact Nat.le_max_left ..
  ·exact QB (vP h) (Nat.le_max_right ..)
theorem zJU:∀ {ds:List D},noLs ds=true ↔ ∀ d∈ds,noL d=true
 | []=>by simp[noLs]
 | d::ds=>by rw[noLs,Va,zJU];simp
theorem nF:∀(ds es:List D),zFY ds es=((List.range (min ds.length es.length)).all (fun j=>eqD (ds.getD j .non) (es.getD j .non)) && ds.length==es.length)
 | [],[]=>rfl
 | [],e::es=>by simp[zFY]
 | d::ds,[]=>by simp[zFY]
 | d::ds,e::es=>by
  rw[zFY,nF ds es];have h:min (d::ds).length (e::es).length=min ds.length es.length+1:=by simp only[Qm];omega
  rw[h,List.range_succ_eq_map];simp[List.all_map,Function.comp_def,Bool.and_assoc]
mutual
theorem tG:∀ d:D,eqD d d=true
 | .non=>rfl
 | .bl b=>by simp[eqD]
 | .int i=>by simp[eqD]
 | .str x=>by simp[eqD]
 | .tup ds=>by rw[eqD];exact tM ds
 | .lst ds=>by rw[eqD];exact tM ds
theorem tM:∀ ds:List D,zFY ds ds=true
 | []=>rfl
 | d::ds=>by rw[zFY,tG d,tM ds];rfl
end
def nb(i:Int):Nat:=i.natAbs.log2+1
theorem zLL(i:Int):i.natAbs < 2^nb i:=Nat.lt_log2_self
theorem zQy{i:Int}{m:Nat}(h:i.natAbs < 2^m)(hm:0 < m):nb i<=m:=by
 unfold nb;by_cases h0:i.natAbs=0
 ·rw[h0];exact hm
 ·exact(Nat.log2_lt h0).mpr h
def jX(i j:Int):Bool:=(decide (-(2^64) < i) && decide (i < 2^64)) || (decide (-(2^64) < j) && decide (j < 2^64)) || decide (nb i+nb j<=134217728)
def lP(j:Int):Bool:=decide (j≠0) && decide (nb j<=9000)
def rL(i j:Int):Bool:=decide (0<=j) && decide ((nb i:Int) * j<=2^27)
abbrev Op2:=D->D->Res D
def sV:Op2
 | .int i,.int j=>.ok (.int (i+j))
 | .tup a,.tup b=>if a.length+b.length<=16777216 then .ok (.tup (a++b)) else .no
 | _,_=>.no
def xV:Op2
 | .int i,.int j=>.ok (.int (i+j))
 | _,_=>.no
def zCt:Op2
 | .int i,.int j=>.ok (.int (i - j))
 | _,_=>.no
def qG:Op2
 | .int i,.int j=>if jX i j=true then .ok (.int (i * j)) else .no
 | _,_=>.no
def rY:Op2
 | .int i,.int j=>if lP j=true then .ok (.int (i.fdiv j)) else .no
 | _,_=>.no
def vQ:Op2
 | .int i,.int j=>if j≠0 then .ok (.int (i.fmod j)) else .no
 | _,_=>.no
def zLm:Op2
 | .int i,.int j=>if rL i j=true then .ok (.int (i^j.toNat)) else .no
 | _,_=>.no
def oEq(x y:D):Res D:=if dep x<=50 then .ok (.bl (eqD x y)) else .no
def oNe(x y:D):Res D:=if dep x<=50 then .ok (.bl (!eqD x y)) else .no
def oLt:Op2
 | .int i,.int j=>.ok (.bl (decide (i < j)))
 | _,_=>.no
def oLe:Op2
 | .int i,.int j=>.ok (.bl (decide (i<=j)))
 | _,_=>.no
def oGt:Op2
 | .int i,.int j=>.ok (.bl (decide (j < i)))
 | _,_=>.no
def oGe:Op2
 | .int i,.int j=>.ok (.bl (decide (j<=i)))
 | _,_=>.no
def atD(ds:List D)(i:Int):Option D:=if 0<=i then ds[i.toNat]? else if 0<=(ds.length:Int)+i then ds[((ds.length:Int)+i).toNat]? else none
def ofO{α:Type}:Option α->Res α
 | some a=>.ok a
 | none=>.no
def oIx:Op2
 | .tup ds,.int i=>ofO (atD ds i)
 | .lst ds,.int i=>ofO (atD ds i)
 | _,_=>.no
def oIn:Op2
 | d,.lst ds=>if depS ds<=50 then .ok (.bl (ds.any fun e=>eqD e d)) else .no
 | d,.tup ds=>if depS ds<=50 then .ok (.bl (ds.any fun e=>eqD e d)) else .no
 | _,_=>.no
def zAQ:D->Res D
 | .int i=>.ok (.int (-i))
 | _=>.no
def zRP:D->Res D
 | .bl b=>.ok (.bl (!b))
 | _=>.no
def aH(i:Nat)(ρ:Rho):Res D:=match ρ[i]? with
 | some (.val d)=>.ok d
 | _=>.no
def eC(d:D)(_ρ:Rho):Res D:=.ok d
def eOp(o:Op2)(a b:Ev)(ρ:Rho):Res D:=(a ρ).bind fun x=>(b ρ).bind fun y=>o x y
def eUn(o:D->Res D)(a:Ev)(ρ:Rho):Res D:=(a ρ).bind o
def zRb(a b:Ev)(ρ:Rho):Res D:=(a ρ).bind fun x=>match x with
 | .bl c=>if c=true then b ρ else .ok (.bl false)
 | _=>.no
def eOr(a b:Ev)(ρ:Rho):Res D:=(a ρ).bind fun x=>match x with
 | .bl c=>if c=true then .ok (.bl true) else b ρ
 | _=>.no
def eIf(t:Tv)(a b:Ev)(ρ:Rho):Res D:=(t ρ).bind fun c=>if c=true then a ρ else b ρ
def aNil(_ρ:Rho):Res (List D):=.ok []
def aE(e:Ev)(r:Fv)(ρ:Rho):Res (List D):=(e ρ).bind fun d=>(r ρ).bind fun ds=>.ok (d::ds)
def sW(a:Fv)(ρ:Rho):Res D:=(a ρ).bind fun ds=>if ds.length<=16777216 then .ok (.tup ds) else .no
def aP(m:Mir)(a:Fv)(ρ:Rho):Res D:=(a ρ).bind fun ds=>(m ds).bind fun r=>.ok r.d
def nQ:List D->Res D
 | [.lst ds]=>.ok (.int ds.length)
 | [.tup ds]=>.ok (.int ds.length)
 | _=>.no
def zLb:List D->Res D
 | [.int i]=>.ok (.int (if i < 0 then -i else i))
 | _=>.no
def zSg:List D->Res D
 | [.int i,.int j]=>.ok (.int (if j > i then j else i))
 | _=>.no
def zOf:List D->Res D
 | [.int i,.int j]=>.ok (.int (if j < i then j else i))
 | _=>.no
def zLk:List D->Res D
 | [.lst ds]=>.ok (.tup ds)
 | [.tup ds]=>.ok (.tup ds)
 | _=>.no
def zPb:List D->Res D
 | [.int i]=>.ok (.int i)
 | [.bl b]=>.ok (.int (if b then 1 else 0))
 | _=>.no
def eB(b:List D->Res D)(a:Fv)(ρ:Rho):Res D:=(a ρ).bind b
def tyN:D->String
 | .non => "NoneType" | .bl _ => "bool" | .int _ => "int" | .str _ => "str" | .tup _ => "tuple" | .lst _ => "list"
def isT(T:String)(d:D):Bool:=tyN d==T || (T == "int" && tyN d == "bool")
def zRW(T:String)(a:Ev)(ρ:Rho):Res D:=(a ρ).bind fun d=>.ok (.bl (isT T d))
def isNon:D->Bool
 | .non=>true
 | _=>false
def Sl.frz:Sl->Sl
 | .own ds=>.val (.lst ds)
 | s=>s
def zPW(e:Ev)(ρ:Rho):Res D:=(e (ρ.map Sl.frz)).bind fun d=>if noL d=true then .ok d else .no
def lQ(a:Fv)(ρ:Rho):Res (List D):=(a ρ).bind fun ds=>if ds.length<=16777216 then .ok ds else .no
def dC(m:Mir)(a:Fv)(ρ:Rho):Res (List D):=(a ρ).bind fun ds=>(m ds).bind fun r=>match r with
 | .f ds=>.ok ds
 | .v _=>.no
def zQh(a:Fv)(ρ:Rho):Res (List D):=(a ρ).bind fun ds=>match ds with
 | [.lst ds]=>.ok ds
 | [.tup ds]=>.ok ds
 | _=>.no
def zMu(a b:Ev)(ρ:Rho):Res (List D):=(a ρ).bind fun x=>(b ρ).bind fun y=>match x,y with
 | .lst ds,.lst es=>if ds.length+es.length<=16777216 then .ok (ds++es) else .no
 | _,_=>.no
def eF(f:Fv)(ρ:Rho):Res D:=(f ρ).bind fun ds=>.ok (.lst ds)
def zNJ(f:Fv)(ρ:Rho):Res (List D):=(f (ρ.map Sl.frz)).bind fun ds=>if noLs ds=true then .ok ds else .no
def cut(n:Nat)(i:Option Int)(d:Nat):Nat:=match i with
 | none=>d
 | some i=>if 0<=i then min i.toNat n else ((n:Int)+i).toNat
def fW(ds:List D)(lo hi:Option Int):List D:=(ds.drop (cut ds.length lo 0)).take (cut ds.length hi ds.length - cut ds.length lo 0)
abbrev Ov:=Rho->Res (Option Int)
def oN(_ρ:Rho):Res (Option Int):=.ok none
def oS(e:Ev)(ρ:Rho):Res (Option Int):=(e ρ).bind fun d=>match d with
 | .int i=>.ok (some i)
 | _=>.no
def fSl(a:Ev)(lo hi:Ov)(ρ:Rho):Res (List D):=(a ρ).bind fun x=>(lo ρ).bind fun l=>(hi ρ).bind fun h=>match x with
 | .lst ds=>.ok (fW ds l h)
 | _=>.no
def zSh(a:Ev)(lo hi:Ov)(ρ:Rho):Res D:=(a ρ).bind fun x=>(lo ρ).bind fun l=>(hi ρ).bind fun h=>match x with
 | .tup ds=>if (fW ds l h).length < ds.length then .ok (.tup (fW ds l h)) else .no
 | _=>.no
def dY(e:Ev)(ρ:Rho):Res Bool:=(e ρ).bind fun d=>match d with
 | .bl b=>.ok b
 | _=>.no
def tFrzB(t:Tv)(ρ:Rho):Res Bool:=t (ρ.map Sl.frz)
def zKs(t:Tv)(ρ:Rho):Res Bool:=(t ρ).bind fun b=>.ok (!b)
def yF(t u:Tv)(ρ:Rho):Res Bool:=(t ρ).bind fun b=>if b=true then u ρ else .ok false
def zKS(t u:Tv)(ρ:Rho):Res Bool:=(t ρ).bind fun b=>if b=true then .ok true else u ρ
def sNext(ρ:Rho):Res Fl:=.ok (.nx ρ)
def bD(a b:Sv)(ρ:Rho):Res Fl:=(a ρ).bind fun f=>match f with
 | .nx ρ'=>b ρ'
 | f=>.ok f
def sIf(t:Tv)(a b:Sv)(ρ:Rho):Res Fl:=(t ρ).bind fun c=>if c=true then a ρ else b ρ
def cX(i:Nat)(e:Ev)(ρ:Rho):Res Fl:=(e ρ).bind fun d=>.ok (.nx (ρ.set i (.val d)))
def zBQ(i:Nat)(f:Fv)(ρ:Rho):Res Fl:=(f ρ).bind fun ds=>.ok (.nx (ρ.set i (.own ds)))
def rC(e:Ev)(ρ:Rho):Res Fl:=(e ρ).bind fun _=>.ok (.nx ρ)
def iA(e:Ev)(ρ:Rho):Res Fl:=(e (ρ.map Sl.frz)).bind fun d=>.ok (.ret (.v d))
def hJ(f:Fv)(ρ:Rho):Res Fl:=(f (ρ.map Sl.frz)).bind fun ds=>.ok (.ret (.f ds))
def fT(i:Nat)(ρ:Rho):Res Fl:=match ρ[i]? with
 | some (.own ds)=>.ok (.ret (.f ds))
 | _=>.no
def sRetN(_ρ:Rho):Res Fl:=.ok (.ret (.v .non))
def jA(c:Str)(a:Fv)(ρ:Rho):Res Fl:=(a ρ).bind fun ds=>if ds.length<=16777216 then .err c else .no
def sNo(_ρ:Rho):Res Fl:=.no
def zFX(i:Nat)(e:Ev)(ρ:Rho):Res Fl:=match ρ[i]? with
 | some (.own ds)=>(e ρ).bind fun d=>if ds.length < 16777216 then .ok (.nx (ρ.set i (.own (ds++[d])))) else .no
 | _=>.no
def zJA(i:Nat)(e:Fv)(ρ:Rho):Res Fl:=match ρ[i]? with
 | some (.own ds)=>(e ρ).bind fun es=>if ds.length+es.length<=16777216 then .ok (.nx (ρ.set i (.own (ds++es)))) else .no
 | _=>.no
def zPR(i:Nat)(k e:Ev)(ρ:Rho):Res Fl:=(e ρ).bind fun d=>match ρ[i]? with
 | some (.own ds)=>(k ρ).bind fun j=>match j with
  | .int j=>if 0<=j/\j < ds.length then .ok (.nx (ρ.set i (.own (ds.set j.toNat d)))) else if -(ds.length:Int)<=j/\j < 0 then .ok (.nx (ρ.set i (.own (ds.set (j+ds.length).toNat d)))) else .no
  | _=>.no
 | _=>.no
def zOe(i:Nat)(ρ:Rho):Res Fl:=match ρ[i]? with
 | some (.own ds)=>if ds.length=0 then .no else .ok (.nx (ρ.set i (.own ds.dropLast)))
 | _=>.no
def zIX(i:Nat)(o:Op2)(e:Ev)(ρ:Rho):Res Fl:=match ρ[i]? with
 | some (.val x)=>(e ρ).bind fun y=>(o x y).bind fun d=>.ok (.nx (ρ.set i (.val d)))
 | _=>.no
def sFrz(s:Sv)(ρ:Rho):Res Fl:=s (ρ.map Sl.frz)
def frzAt(i:Nat)(ρ:Rho):Rho:=match ρ[i]? with
 | some (.own ds)=>ρ.set i (.val (.lst ds))
 | _=>ρ
def sFrzAt(i:Nat)(s:Sv)(ρ:Rho):Res Fl:=s (frzAt i ρ)
def noErr{α:Type}:Res α->Res α
 | .err _=>.no
 | r=>r
abbrev Gv:=D->Rho->Res Rho
def gName(i:Nat)(d:D)(ρ:Rho):Res Rho:=.ok (ρ.set i (.val d))
def zHv(gs:List D->Rho->Res Rho)(d:D)(ρ:Rho):Res Rho:=match d with
 | .tup ds=>gs ds ρ
 | _=>.no
def zIA(ds:List D)(ρ:Rho):Res Rho:=match ds with
 | []=>.ok ρ
 | _=>.no
def nM(g:Gv)(r:List D->Rho->Res Rho)(ds:List D)(ρ:Rho):Res Rho:=match ds with
 | d::ds=>(g d ρ).bind fun ρ'=>r ds ρ'
 | []=>.no
def zRZ(g:Gv)(f:Ev)(ρ:Rho):Res Fl:=(f ρ).bind fun d=>(g d ρ).bind fun ρ'=>.ok (.nx ρ')
def gO(g:Gv)(b:Sv):List D->Rho->Res Fl
 | [],ρ=>.ok (.nx ρ)
 | d::ds,ρ=>(g d ρ).bind fun ρ1=>(b ρ1).bind fun f=>match f with
  | .nx ρ2=>gO g b ds ρ2
  | .ctn ρ2=>gO g b ds ρ2
  | .brk ρ2=>.ok (.nx ρ2)
  | .ret r=>.ok (.ret r)
def zG(it:Fv)(g:Gv)(b:Sv)(ρ:Rho):Res Fl:=(it ρ).bind fun ds=>gO g b ds ρ
def qF(e:Ev)(ρ:Rho):Res (List D):=(e ρ).bind fun d=>match d with
 | .lst ds=>.ok ds
 | .tup ds=>.ok ds
 | _=>.no
def rng(lo:Int)(n:Nat)(c:Int):List D:=(List.range n).map fun(i:Nat)=>D.int (lo+(i:Int) * c)
def zCk(a:Fv)(ρ:Rho):Res (List D):=(a ρ).bind fun ds=>match ds with
 | [.int j]=>if -(2^62)<=j/\j < 2^62 then .ok (rng 0 j.toNat 1) else .no
 | _=>.no
def zHH(a:Fv)(ρ:Rho):Res (List D):=(a ρ).bind fun ds=>match ds with
 | [.int i,.int j]=>if -(2^62)<=i/\i < 2^62/\-(2^62)<=j/\j < 2^62 then .ok (rng i (j - i).toNat 1) else .no
 | _=>.no
def wh(t:Tv)(b:Sv):Nat->Rho->Res Fl
 | 0,_=>.no
 | n+1,ρ=>(t ρ).bind fun c=>if c=true then (b ρ).bind fun f=>match f with
   | .nx ρ2=>wh t b n ρ2
   | .ctn ρ2=>wh t b n ρ2
   | .brk ρ2=>.ok (.nx ρ2)
   | .ret r=>.ok (.ret r)
  else .ok (.nx ρ)
open Classical in
def eQ(t:Tv)(b:Sv)(ρ:Rho):Res Fl:=if h:∃ n,wh t b n ρ≠.no then wh t b h.choose ρ else .no
theorem yW{t:Tv}{b:Sv}:∀ {n:Nat} {ρ:Rho} {k:Nat},wh t b n ρ≠.no->n<=k->wh t b k ρ=wh t b n ρ
 | 0,ρ,k,h,_=>absurd rfl h
 | n+1,ρ,0,h,l=>absurd l (by omega)
 | n+1,ρ,k+1,h,l=>by
  rw[wh,wh];rw[wh] at h
  cases ht:t ρ with
  | no=>rfl
  | err c=>rfl
  | ok c=>
   rw[ht] at h;simp only[Res.bind] at h ⊢
   cases c with
   | false=>rfl
   | true=>
    simp only[if_true] at h ⊢
    cases hb:b ρ with
    | no=>rfl
    | err c=>rfl
    | ok f=>
     rw[hb] at h
     cases f with
     | nx ρ2=>exact yW h (by omega)
     | ctn ρ2=>exact yW h (by omega)
     | brk ρ2=>rfl
     | ret r=>rfl
theorem hU{t:Tv}{b:Sv}{n:Nat}{ρ:Rho}(h:wh t b n ρ≠.no):eQ t b ρ=wh t b n ρ:=by
 have hx:∃ n,wh t b n ρ≠.no:=⟨n,h⟩;unfold eQ;rw[dif_pos hx];rcases Xa n hx.choose with l | l
 ·exact yW h l
 ·exact(yW hx.choose_spec l).symm
theorem oJ{t:Tv}{b:Sv}{ρ:Rho}(h:eQ t b ρ≠.no):∃ n,eQ t b ρ=wh t b n ρ:=by
 unfold eQ at h ⊢
 split
 ·exact⟨_,rfl⟩
 ·rename_i hx;rw[dif_neg hx] at h;exact absurd rfl h
theorem zBv{t:Tv}{b:Sv}{ρ:Rho}:eQ t b ρ=((t ρ).bind fun c=>if c=true then (b ρ).bind fun f=>match f with
   | .nx ρ2=>eQ t b ρ2
   | .ctn ρ2=>eQ t b ρ2
   | .brk ρ2=>.ok (.nx ρ2)
   | .ret r=>.ok (.ret r)
  else .ok (.nx ρ)):=by
 have key:∀ n,wh t b (n+1) ρ≠.no->wh t b (n+1) ρ=((t ρ).bind fun c=>if c=true then (b ρ).bind fun f=>match f with
   | .nx ρ2=>eQ t b ρ2
   | .ctn ρ2=>eQ t b ρ2
   | .brk ρ2=>.ok (.nx ρ2)
   | .ret r=>.ok (.ret r)
  else .ok (.nx ρ)):=by
  intro n h;rw[wh] at h ⊢
  cases ht:t ρ with
  | no=>rfl
  | err c=>rfl
  | ok c=>
   rw[ht] at h;simp only[Res.bind] at h ⊢
   cases c with
   | false=>rfl
   | true=>
    simp only[if_true] at h ⊢
    cases hb:b ρ with
    | no=>rfl
    | err c=>rfl
    | ok f=>
     rw[hb] at h
     cases f with
     | nx ρ2=>exact(hU h).symm
     | ctn ρ2=>exact(hU h).symm
     | brk ρ2=>rfl
     | ret r=>rfl
 by_cases h:eQ t b ρ=.no
 ·rw[h]
  cases ht:t ρ with
  | no=>rfl
  | err c=>
   exfalso
   have q:wh t b 1 ρ=.err c:=by rw[wh,ht];rfl
   have:=hU (t:=t) (b:=b) (ρ:=ρ) (n:=1) (by rw[q];exact fun z=>by cases z)
   rw[h,q] at this;cases this
  | ok c=>
   simp only[Res.bind]
   cases c with
   | false=>
    exfalso
    have q:wh t b 1 ρ=.ok (.nx ρ):=by rw[wh,ht];rfl
    have:=hU (t:=t) (b:=b) (ρ:=ρ) (n:=1) (by rw[q];exact fun z=>by cases z)
    rw[h,q] at this;cases this
   | true=>
    simp only[if_true]
    cases hb:b ρ with
    | no=>rfl
    | err c=>
     exfalso
     have q:wh t b 1 ρ=.err c:=by rw[wh,ht];simp[Res.bind,hb]
     have:=hU (t:=t) (b:=b) (ρ:=ρ) (n:=1) (by rw[q];exact fun z=>by cases z)
     rw[h,q] at this;cases this
    | ok f=>
     have again:∀ ρ2,(f=.nx ρ2∨f=.ctn ρ2)->eQ t b ρ2=.no:=by
      intro ρ2 hf;by_cases h2:eQ t b ρ2=.no
      ·exact h2
      ·exfalso
       obtain⟨n,e⟩:=oJ h2
       have q:wh t b (n+1) ρ=wh t b n ρ2:=by
        rw[wh,ht];simp only[Res.bind,if_true,hb];rcases hf with rfl | rfl<;>rfl
       have h3:wh t b (n+1) ρ≠.no:=by rw[q,<-e];exact h2
       have:=hU h3
       rw[h] at this;exact h3 this.symm
     cases f with
     | nx ρ2=>exact(again ρ2 (.inl rfl)).symm
     | ctn ρ2=>exact(again ρ2 (.inr rfl)).symm
     | brk ρ2=>
      exfalso
      have q:wh t b 1 ρ=.ok (.nx ρ2):=by rw[wh,ht];simp[Res.bind,hb]
      have:=hU (t:=t) (b:=b) (ρ:=ρ) (n:=1) (by rw[q];exact fun z=>by cases z)
      rw[h,q] at this;cases this
     | ret r=>
      exfalso
      have q:wh t b 1 ρ=.ok (.ret r):=by rw[wh,ht];simp[Res.bind,hb]
      have:=hU (t:=t) (b:=b) (ρ:=ρ) (n:=1) (by rw[q];exact fun z=>by cases z)
      rw[h,q] at this;cases this
 ·obtain⟨n,e⟩:=oJ h
  cases n with
  | zero=>rw[e] at h;exact absurd rfl h
  | succ n=>rw[e];exact key n (by rw[<-e];exact h)
def zMi(f:Fv)(g:Ev)(ρ:Rho):Res (List D):=(f ρ).bind fun ds=>(g ρ).bind fun d=>match d with
 | .int k=>if 0<=k/\k < 2^62/\ds.length * k.toNat<=16777216 then .ok (List.replicate k.toNat ds).flatten else .no
 | _=>.no
def jC(_ρ:Rho):Res Bool:=.ok true
def iC(t:Tv)(f:Ev)(ρ:Rho):List D->Res (List D)
 | []=>.ok []
 | d::ds=>(noErr (t (ρ++[.val d]))).bind fun c=>if c=true then (noErr (f (ρ++[.val d]))).bind fun e=>(iC t f ρ ds).bind fun es=>.ok (e::es) else iC t f ρ ds
def jE(it:Fv)(t:Tv)(f:Ev)(ρ:Rho):Res (List D):=(it ρ).bind fun ds=>if ds.length<=16777215 then iC t f ρ ds else .no
def start(n:Nat)(ds:List D):Rho:=ds.map Sl.val++List.replicate (n - ds.length) .un
def fin:Fl->Res Rt
 | .nx _=>.ok (.v .non)
 | .ret r=>.ok r
 | .brk _=>.no
 | .ctn _=>.no
def fn(p n:Nat)(b:Sv)(ds:List D):Res Rt:=if ds.length=p then (b (start n ds)).bind fin else .no
def zIY:D->Option (List D)
 | .lst ds=>some ds
 | .tup ds=>some ds
 | _=>none
def jT:List D->List D->List D
 | a::r,b::q=>.tup [a,b]::jT r q
 | _,_=>[]
def zKV(a:Fv)(ρ:Rho):Res (List D):=(a ρ).bind fun ds=>match ds with
 | [x,y]=>match zIY x,zIY y with
  | some xs,some ys=>.ok (jT xs ys)
  | _,_=>.no
 | _=>.no
def fY(f:Ev)(ρ:Rho):List D->Res (List D)
 | []=>.ok []
 | .tup [a,b]::ds=>(noErr (f (ρ++[.val a,.val b]))).bind fun e=>(fY f ρ ds).bind fun es=>.ok (e::es)
 | _::_=>.no
def uG(it:Fv)(f:Ev)(ρ:Rho):Res (List D):=(it ρ).bind fun ds=>if ds.length<=16777215 then fY f ρ ds else .no
def zRQ:D->Option Str
 | .str x=>some x
 | .int i=>if i.natAbs.log2 < 1920 then some (toString i) else none
 | _=>none
def zRF:Str->List D->Option Str
 | a,[]=>some a
 | a,d::r=>match zRQ d with
  | some x=>if x.length<=sizeLine/\(a++x).length<=sizeLine then zRF (a++x) r else none
  | none=>none
def nO:List D->Option (List Int)
 | []=>some []
 | .int i::ds=>match nO ds with
  | some ns=>some (i::ns)
  | none=>none
 | _::_=>none
def zAS:List D->Res D
 | [.lst ds]=>(match nO ds with
  | some ns=>.ok (.int ns.sum)
  | none=>.no)
 | [.tup ds]=>(match nO ds with
  | some ns=>.ok (.int ns.sum)
  | none=>.no)
 | _=>.no
def chO:Option Nat->Res D
 | some c=>.ok (.str ⟨#[c]⟩)
 | none=>.no
def zKv:List D->Option (List Bool)
 | []=>some []
 | .bl b::r=>(zKv r).map (b::·)
 | _=>none
def zSf:List D->Res D
 | [.lst ds]=>(match zKv ds with | some bs=>.ok (.bl (bs.all id)) | none=>.no)
 | _=>.no
def slS(l u:Option Int):D->Res D
 | .str x=>if x.length<=sizeLine then .ok (.str (Txt.slice x l u)) else .no
 | _=>.no
def qS(T:List (Str×Str)):D->Res D
 | .str x=>.ok (.bl (!(T.lookup x).isSome))
 | _=>.no
def zNG:Option Str->Res D
 | some y=>.ok (.str y)
 | none=>.no
def tU(T:List (Str×Str)):D->Res D
 | .str x=>zNG (T.lookup x)
 | _=>.no
def zAI:Int->List Int->Int
 | a,[]=>a
 | a,b::r=>zAI (if b > a then b else a) r
def zBz:List D->Res D
 | [.lst ds]=>(match nO ds with | some (a::r)=>.ok (.int (zAI a r)) | _=>.no)
 | _=>.no
end L3
namespace L3
open PySem
def gX(kz:List Int)(π:List Nat):Prop:=π.Perm (List.range kz.length)/\π.Pairwise (fun i j=>kz.getD i 0<=kz.getD j 0)
def zJa(b:Int):D->Res Int
 | .tup [.int t,.int d]=>if lP d && jX t (b.fdiv d) then .ok (t * b.fdiv d) else .no
 | _=>.no
def oB(b:Int):List D->Res (List Int)
 | []=>.ok []
 | d::r=>(zJa b d).bind fun k=>(oB b r).bind fun ks=>.ok (k::ks)
def kB(π:List Nat):List D:=π.map fun i:Nat=>D.int (i:Int)
theorem zMe{b k:Int}{d:D}(h:zJa b d=.ok k):∃ t c,d=.tup [.int t,.int c]/\lP c=true/\jX t (b.fdiv c)=true/\k=t * b.fdiv c:=by
 unfold zJa at h;split at h
 ·rename_i t c
  split at h
  ·rename_i hc
   rw[Va] at hc;cases h;exact⟨t,c,rfl,hc.1,hc.2,rfl⟩
  ·cases h
 ·cases h
theorem yR{b:Int}:∀ {rows:List D} {kz:List Int},oB b rows=.ok kz->kz.length=rows.length/\∀(j:Nat)(k:Int),kz[j]?=some k->∃ d,rows[j]?=some d/\zJa b d=.ok k
 | [],kz,h=>by cases h;exact⟨rfl,fun j k z=>by simp at z⟩
 | d::r,kz,h=>by
  unfold oB at h
  cases e:zJa b d with
  | no=>rw[e] at h;cases h
  | err c=>rw[e] at h;cases h
  | ok k0=>
   rw[e] at h;have h':(oB b r).bind (fun ks=>Res.ok (k0::ks))=.ok kz:=h
   cases e2:oB b r with
   | no=>rw[e2] at h';cases h'
   | err c=>rw[e2] at h';cases h'
   | ok ks=>
    rw[e2] at h';cases h'
    obtain⟨h1,h2⟩:=yR e2;refine⟨by rw[Qm,Qm,h1],fun j k z=>?_⟩
    cases j with
    | zero=>simp at z;subst z;exact⟨d,rfl,e⟩
    | succ j=>exact h2 j k (by simpa using z)
def zEO(ρ:Rho):Res (List Int):=match ρ[0]?,ρ[1]? with
 | some (Sl.val (.lst rows)),some (Sl.val (.int b))=>if rows.length < 64 then oB b rows else .no
 | _,_=>.no
def yU(sa sb:Sv)(ds:List D):Res (List Int):=if ds.length=1 then (match sa (L3.start 3 ds) with
 | .ok (.nx ρ)=>(match sb ρ with
  | .ok (.nx ρ')=>zEO ρ'
  | _=>.no)
 | _=>.no) else .no
theorem zEP{b:Int}:∀ {rows:List D} {c:Str},oB b rows≠.err c
 | [],c,h=>by cases h
 | d::r,c,h=>by
  unfold oB at h
  have k0:∀ c,zJa b d≠.err c:=fun c z=>by
   unfold zJa at z;split at z
   ·split at z<;>cases z
   ·cases z
  cases e:zJa b d with
  | no=>rw[e] at h;cases h
  | err c'=>exact k0 _ e
  | ok k=>
   rw[e] at h;have h':(oB b r).bind (fun ks=>Res.ok (k::ks))=.err c:=h
   cases e2:oB b r with
   | no=>rw[e2] at h';cases h'
   | err c'=>exact zEP e2
   | ok ks=>rw[e2] at h';cases h'
theorem zPj{sa sb:Sv}(ds:List D)(c:Str):yU sa sb ds≠.err c:=fun h=>by
 unfold yU zEO at h;split at h
 ·split at h
  ·split at h
   ·split at h
    ·split at h
     ·exact zEP h
     ·cases h
    ·cases h
   ·cases h
  ·cases h
 ·cases h
theorem zLp{sa sb:Sv}(ds:List D)(h:yU sa sb ds≠.no):ds.length=1:=by
 unfold yU at h;split at h
 ·assumption
 ·exact absurd rfl h
open Classical in
def oC(kz:List Int)(F:List Nat->Res Fl):Res Fl:=if h:∃ x,∀ π,gX kz π->F π=x then h.choose else .no
theorem zFt{kz:List Int}{F:List Nat->Res Fl}{π:List Nat}(h:oC kz F≠.no)(hπ:gX kz π):F π=oC kz F:=by
 unfold oC at h ⊢
 split at h
 ·rename_i z;rw[dif_pos z];exact z.choose_spec π hπ
 ·exact absurd rfl h
theorem zFv{kz:List Int}{F:List Nat->Res Fl}{x:Res Fl}{π:List Nat}(hπ:gX kz π)(h:∀ π,gX kz π->F π=x):oC kz F=x:=by
 have z:∃ x,∀ π,gX kz π->F π=x:=⟨x,h⟩;unfold oC;rw[dif_pos z,<-z.choose_spec π hπ];exact h π hπ
def zHD(fs:Fv)(kf:List D->Res (List Int))(g:Gv)(b r:Sv):Sv:=fun ρ=>((fs ρ).bind kf).bind fun kz=>oC kz fun π=>bD (fun ρ=>gO g b (kB π) ρ) r ρ
abbrev Tri:=D×List D×List D
def zJD(e:Ev):Fv:=fun ρ=>(e ρ).bind fun d=>match d with
 | .lst ds=>.ok ds.reverse
 | _=>.no
def zRg:D->Res (List D)
 | .lst ds=>.ok ds.reverse
 | _=>.no
theorem revL_l{ds:List D}:zRg (.lst ds)=.ok ds.reverse:=rfl
theorem iRevL_at{e:Ev}{ρ:Rho}:zJD e ρ=(e ρ).bind zRg:=by
 unfold zJD;congr
end L3
namespace Fq
theorem zDY{a b:Int}(ha:0<=a)(hb:0 < b):Int.gcd b (a % b)=Int.gcd a b:=by
 obtain⟨m,rfl⟩:=XG ha;obtain⟨n,rfl⟩:=XG (VJ hb);show Nat.gcd n (m % n)=Nat.gcd m n
 rw[Nat.gcd_comm n (m % n),Nat.gcd_comm m n,Nat.gcd_rec n m]
def dv(t b:Int):Int:=if b < 0 then -(Int.gcd t b:Int) else (Int.gcd t b:Int)
theorem zNq{t b:Int}(hb:b≠0):0 < (Int.gcd t b:Int):=by
 have h:Int.gcd t b≠0:=fun h=>hb (Int.gcd_eq_zero_iff.mp h).2
 omega
theorem zPu{t b:Int}(hb:b≠0):dv t b≠0:=by
 have:=zNq (t:=t) hb
 unfold dv;split<;>omega
theorem zAn(t b:Int):dv t b ∣ t:=by
 unfold dv;split
 ·exact Int.neg_dvd.mpr (XH ..)
 ·exact XH ..
theorem zDK(t b:Int):dv t b ∣ b:=by
 unfold dv;split
 ·exact Int.neg_dvd.mpr (XI ..)
 ·exact XI ..
theorem oO{t d:Int}(h:d ∣ t):t.fdiv d=t / d:=by
 rw[Int.fdiv_eq_ediv];simp[h]
theorem xR{t b:Int}(hb:b≠0):t.fdiv (dv t b)=(Rat.divInt t b).num:=by
 rw[oO (zAn t b),Rat.num_divInt,Int.gcd_comm b t];unfold dv;rcases Int.lt_trichotomy b 0 with h | h | h
 ·rw[if_pos h,Int.sign_eq_neg_one_of_neg h,Int.ediv_neg]
  have:(-1:Int) * t=-t:=by omega
  rw[this,Yn (XH ..)]
 ·exact absurd h hb
 ·rw[if_neg (by omega),Int.sign_eq_one_of_pos h,Int.one_mul]
theorem xN{t b:Int}(hb:b≠0):b.fdiv (dv t b)=((Rat.divInt t b).den:Int):=by
 rw[oO (zDK t b),Rat.den_divInt,if_neg hb,Int.gcd_comm b t];unfold dv;rcases Int.lt_trichotomy b 0 with h | h | h
 ·rw[if_pos h,Int.ediv_neg,Int.natCast_ediv]
  have e:((b.natAbs:Nat):Int)=-b:=by omega
  rw[e,Yn (XI ..)]
 ·exact absurd h hb
 ·rw[if_neg (by omega),Int.natCast_ediv]
  have e:((b.natAbs:Nat):Int)=b:=by omega
  rw[e]
theorem eM(q:Rat):(q.den:Int)≠0:=by have:=q.den_nz;omega
theorem fB(q:Rat):(0:Int) < (q.den:Int):=by have:=q.den_nz;omega
theorem zIO(p q:Rat):Rat.divInt (p.num * q.den+q.num * p.den) (p.den * q.den)=p+q:=by
 rw[<-Rat.divInt_add_divInt _ _ (eM p) (eM q),Vi,Vi]
theorem zKU(p q:Rat):Rat.divInt (p.num * q.den - q.num * p.den) (p.den * q.den)=p - q:=by
 rw[<-Rat.divInt_sub_divInt _ _ (eM p) (eM q),Vi,Vi]
theorem zHw(p q:Rat):Rat.divInt (p.num * q.num) (p.den * q.den)=p * q:=by
 rw[<-XJ,Vi,Vi]
theorem zGH(p q:Rat):Rat.divInt (p.num * q.den) (p.den * q.num)=p / q:=by
 rw[<-XJ,Vi,QI,Rat.inv_def]
theorem zLd{q:Rat}:q.num≠0 ↔ q≠0:=by
 constructor
 ·intro h e;exact h (by rw[e];rfl)
 ·intro h e;exact h (Rat.num_eq_zero.mp e)
def Sz(n:Nat)(q:Rat):Prop:=q.num.natAbs < 2^n/\q.den < 2^n
theorem Sz.mono{m n:Nat}{q:Rat}(h:Sz m q)(l:m<=n):Sz n q:=
 ⟨Qo h.1 (Q2 (by decide) l),Qo h.2 (Q2 (by decide) l)⟩
theorem zOT{t b:Int}(hb:b≠0):(Rat.divInt t b).num.natAbs<=t.natAbs:=by
 rw[<-xR hb,oO (zAn t b),Int.natAbs_ediv_of_dvd (zAn t b)];exact Nat.div_le_self ..
theorem zEl{t b:Int}(hb:b≠0):(Rat.divInt t b).den<=b.natAbs:=by
 rw[Rat.den_divInt,if_neg hb];exact Nat.div_le_self ..
theorem Sz.of{n:Nat}{t b:Int}(hb:b≠0)(ht:t.natAbs < 2^n)(h:b.natAbs < 2^n):Sz n (Rat.divInt t b):=
 ⟨Vp (zOT hb) ht,Vp (zEl hb) h⟩
theorem fM{a b:Int}{m n:Nat}(ha:a.natAbs < 2^m)(hb:b.natAbs < 2^n):(a * b).natAbs < 2^(m+n):=by
 rw[Int.natAbs_mul,Nat.pow_add];exact Nat.mul_lt_mul'' ha hb
theorem zNN{a b:Int}{m:Nat}(ha:a.natAbs < 2^m)(hb:b.natAbs < 2^m):(a+b).natAbs < 2^(m+1):=by
 rw[Nat.pow_succ];omega
theorem zOO{a b:Int}{m:Nat}(ha:a.natAbs < 2^m)(hb:b.natAbs < 2^m):(a - b).natAbs < 2^(m+1):=by
 rw[Nat.pow_succ];omega
theorem Sz.d{n:Nat}{q:Rat}(h:Sz n q):((q.den:Int)).natAbs < 2^n:=h.2
theorem Sz.add{m n:Nat}{p q:Rat}(hp:Sz m p)(hq:Sz n q):Sz (m+n+1) (p+q):=by
 rw[<-zIO];refine Sz.of (by have:=fB p;have:=fB q;exact Vj (eM p) (eM q)) (zNN (fM hp.1 hq.d) ?_) ?_
 ·rw[XF m n];exact fM hq.1 hp.d
 ·exact Qo (fM hp.d hq.d) (Q2 (by decide) (by omega))
theorem Sz.sub{m n:Nat}{p q:Rat}(hp:Sz m p)(hq:Sz n q):Sz (m+n+1) (p - q):=by
 rw[<-zKU];refine Sz.of (Vj (eM p) (eM q)) (zOO (fM hp.1 hq.d) ?_) ?_
 ·rw[XF m n];exact fM hq.1 hp.d
 ·exact Qo (fM hp.d hq.d) (Q2 (by decide) (by omega))
theorem Sz.mul{m n:Nat}{p q:Rat}(hp:Sz m p)(hq:Sz n q):Sz (m+n) (p * q):=by
 rw[<-zHw];exact Sz.of (Vj (eM p) (eM q)) (fM hp.1 hq.1) (fM hp.d hq.d)
theorem Sz.div{m n:Nat}{p q:Rat}(hp:Sz m p)(hq:Sz n q)(h:q≠0):Sz (m+n) (p / q):=by
 rw[<-zGH];exact Sz.of (Vj (eM p) (zLd.mpr h)) (fM hp.1 hq.d) (fM hp.d hq.1)
end Fq
namespace Fr
open L3 PySem Fq
theorem zEX{t:Tv}{b:Sv}{ρ:Rho}(P:Rho->Prop)(μ:Rho->Nat)(Q:Res Fl->Prop)(h0:P ρ)
  (step:∀ ρ,P ρ->(t ρ=.ok false/\Q (.ok (.nx ρ)))∨(t ρ=.ok true/\∃ ρ',b ρ=.ok (.nx ρ')/\P ρ'/\μ ρ' < μ ρ)):Q (eQ t b ρ):=by
 have main:∀ n ρ,μ ρ<=n->P ρ->Q (eQ t b ρ):=by
  intro n
  induction n with
  | zero=>
   intro ρ hn hp;rw[zBv];rcases step ρ hp with⟨h1,h2⟩ | ⟨h1,ρ',h2,h3,h4⟩
   ·rw[h1];exact h2
   ·omega
  | succ n ih=>
   intro ρ hn hp;rw[zBv];rcases step ρ hp with⟨h1,h2⟩ | ⟨h1,ρ',h2,h3,h4⟩
   ·rw[h1];exact h2
   ·rw[h1]
    simp only[Res.bind,if_true,h2];exact ih ρ' (by omega) h3
 exact main _ ρ (Qh _) h0
theorem zEa{i:Int}{m:Nat}(h:i.natAbs < 2^m):nb i<=m+1:=zQy (Qo h (Q2 (by decide) (by omega))) (by omega)
theorem bW{i j:Int}{m n:Nat}(hi:i.natAbs < 2^m)(hj:j.natAbs < 2^n)(h:m+n<=100000000):jX i j=true:=by
 unfold jX;have h1:=zEa hi;have h2:=zEa hj;rw[VL];exact .inr (decide_eq_true (by omega))
theorem zLS{i j:Int}(h1:-(2^64) < j)(h2:j < 2^64):jX i j=true:=by
 unfold jX;rw[VL,VL];exact .inl (.inr (by rw[decide_eq_true h1,decide_eq_true h2];rfl))
theorem zNa{i j:Int}(h1:-(2^64) < i)(h2:i < 2^64):jX i j=true:=by
 unfold jX;rw[VL,VL];exact .inl (.inl (by rw[decide_eq_true h1,decide_eq_true h2];rfl))
theorem sT{j:Int}{m:Nat}(h0:j≠0)(hj:j.natAbs < 2^m)(h:m<=8999):lP j=true:=by
 unfold lP;have h1:=zEa hj;rw[decide_eq_true h0,decide_eq_true (show nb j<=9000 by omega)];rfl
theorem zKn{i j:Int}{m:Nat}(hi:i.natAbs < 2^m)(h0:0<=j)(h:((m:Int)+1) * j<=2^27):rL i j=true:=by
 unfold rL;have h1:=zEa hi;rw[decide_eq_true h0,decide_eq_true (show(nb i:Int) * j<=2^27 from QV (Yo (by omega) h0) h)];rfl
theorem okDiv_lit{j:Int}(h0:0 < j)(h:j < 1000000000000000000):lP j=true:=sT (m:=64) (by omega) (by omega) (by decide)
theorem okMul_litr{i j:Int}(h1:-1000000000000000000 < j)(h2:j < 1000000000000000000):jX i j=true:=zLS (by omega) (by omega)
theorem okMul_litl{i j:Int}(h1:-1000000000000000000 < i)(h2:i < 1000000000000000000):jX i j=true:=zNa (by omega) (by omega)
theorem p10(n:Nat):(0:Int) < 10^n:=Xb (by decide)
theorem p10ne(n:Nat):((10:Int)^n=0)=False:=eq_false (by have:=p10 n;omega)
theorem p10pos2(n:Nat):(0:Int) < 2 * 10^n:=by have:=p10 n;omega
theorem p10ne2(n:Nat):((2:Int) * 10^n=0)=False:=eq_false (by have:=p10 n;omega)
theorem okp9:rL 10 9=true:=by decide
def dq(q:Rat):D:=.tup [.int q.num,.int (q.den:Int)]
def dp(p:Rat×Rat):D:=.tup [dq p.1,dq p.2]
theorem eq_dq(p q:Rat):eqD (dq p) (dq q)=decide (p=q):=by
 show((p.num==q.num) && (((p.den:Int)==(q.den:Int)) && true))=decide (p=q)
 by_cases h:p=q
 ·subst h;simp
 ·rw[decide_eq_false h]
  by_cases h1:p.num=q.num
  ·have h2:p.den≠q.den:=fun e=>h (Rat.ext h1 e)
   have:((p.den:Int)==(q.den:Int))=false:=by simp;omega
   rw[this];simp
  ·simp[h1]
theorem dep_dq(q:Rat):dep (dq q)=1:=rfl
theorem ix_dq0(q:Rat):oIx (dq q) (.int 0)=.ok (.int q.num):=rfl
theorem ix_dq1(q:Rat):oIx (dq q) (.int 1)=.ok (.int (q.den:Int)):=rfl
theorem ty_dq(q:Rat):tyN (dq q) = "tuple" := rfl
theorem len_dq(q:Rat):nQ [dq q]=.ok (.int 2):=rfl
theorem oEq_dq(p q:Rat):oEq (dq p) (dq q)=.ok (.bl (decide (p=q))):=by
 rw[<-eq_dq];rfl
theorem oNe_dq(p q:Rat):oNe (dq p) (dq q)=.ok (.bl (!decide (p=q))):=by
 rw[<-eq_dq];rfl
theorem noL_dq(q:Rat):noL (dq q)=true:=rfl
theorem zOC(p q:Rat×Rat):eqD (dp p) (dp q)=decide (p=q):=by
 show(eqD (dq p.1) (dq q.1) && (eqD (dq p.2) (dq q.2) && true))=decide (p=q)
 rw[eq_dq,eq_dq];obtain⟨a,b⟩:=p;obtain⟨c,d⟩:=q;simp
theorem dp_mk(a b:Rat):(.tup [dq a,dq b]:D)=dp (a,b):=rfl
theorem ix_dp0(p:Rat×Rat):oIx (dp p) (.int 0)=.ok (dq p.1):=rfl
theorem ix_dp1(p:Rat×Rat):oIx (dp p) (.int 1)=.ok (dq p.2):=rfl
theorem ty_dp(p:Rat×Rat):tyN (dp p) = "tuple" := rfl
theorem len_dp(p:Rat×Rat):nQ [dp p]=.ok (.int 2):=rfl
theorem dep_dp(p:Rat×Rat):dep (dp p)=2:=rfl
theorem noL_dp(p:Rat×Rat):noL (dp p)=true:=rfl
theorem oEq_dp(p q:Rat×Rat):oEq (dp p) (dp q)=.ok (.bl (decide (p=q))):=by
 rw[<-zOC];rfl
theorem oNe_dp(p q:Rat×Rat):oNe (dp p) (dp q)=.ok (.bl (!decide (p=q))):=by
 rw[<-zOC];rfl
theorem fdiv_pos(a:Int){b:Int}(h:0 < b):a.fdiv b=a / b:=Yp a (by omega)
theorem fmod_pos(a:Int){b:Int}(h:0 < b):a.fmod b=a % b:=Yq a (by omega)
theorem zMa(a:Int){b:Int}(h:0<=b):a.fdiv b=a / b:=Yp a h
theorem yE(a:Int){b:Int}(h:0<=b):a.fmod b=a % b:=Yq a h
theorem noLs_dps:∀ l:List (Rat×Rat),noLs (l.map dp)=true
 | []=>rfl
 | q::l=>by rw[Qv,noLs,noL_dp,noLs_dps l];rfl
theorem mV{α:Type}{l:List α}{i:Nat}{a:α}(h:l[i]?=some a):l.take (i+1)=l.take i++[a]:=by rw[XL,h];rfl
theorem zPv{b:Int}(h:0 < b):(.tup [.int 1,.int b]:D)=dq (Rat.divInt 1 b):=by
 have hb:b≠0:=by omega
 have e:Fq.dv 1 b=1:=by unfold Fq.dv;rw[if_neg (by omega)];simp
 unfold dq;rw[<-Fq.xR hb,<-Fq.xN hb,e];simp
theorem zPC(k:Int):(.tup [.int k,.int 1]:D)=dq (k:Rat):=rfl
end Fr
namespace L3
open PySem
def zJo(b:Sv):Fl->Res Fl
 | .nx ρ=>b ρ
 | .ret r=>.ok (.ret r)
 | .brk ρ=>.ok (.brk ρ)
 | .ctn ρ=>.ok (.ctn ρ)
theorem sSeq_at{a b:Sv}{ρ:Rho}:bD a b ρ=(a ρ).bind (zJo b):=by
 unfold bD;congr;funext f;cases f<;>rfl
def ifF(a b:Sv)(ρ:Rho):Bool->Res Fl
 | true=>a ρ
 | false=>b ρ
theorem sIf_at{t:Tv}{a b:Sv}{ρ:Rho}:sIf t a b ρ=(t ρ).bind (ifF a b ρ):=by
 unfold sIf;congr;funext c;cases c<;>rfl
def zQr(a b:Ev)(ρ:Rho):Bool->Res D
 | true=>a ρ
 | false=>b ρ
theorem eIf_at{t:Tv}{a b:Ev}{ρ:Rho}:eIf t a b ρ=(t ρ).bind (zQr a b ρ):=by
 unfold eIf;congr;funext c;cases c<;>rfl
def zQI(b:Ev)(ρ:Rho):D->Res D
 | .bl true=>b ρ
 | .bl false=>.ok (.bl false)
 | _=>.no
theorem eAnd_at{a b:Ev}{ρ:Rho}:zRb a b ρ=(a ρ).bind (zQI b ρ):=by
 unfold zRb;congr;funext c;cases c<;>try rfl
 rename_i c;cases c<;>rfl
def orF(b:Ev)(ρ:Rho):D->Res D
 | .bl true=>.ok (.bl true)
 | .bl false=>b ρ
 | _=>.no
theorem eOr_at{a b:Ev}{ρ:Rho}:eOr a b ρ=(a ρ).bind (orF b ρ):=by
 unfold eOr;congr;funext c;cases c<;>try rfl
 rename_i c;cases c<;>rfl
def opF(o:Op2)(b:Ev)(ρ:Rho)(x:D):Res D:=(b ρ).bind (o x)
theorem eOp_at{o:Op2}{a b:Ev}{ρ:Rho}:eOp o a b ρ=(a ρ).bind (opF o b ρ):=rfl
def consG(d:D)(ds:List D):Res (List D):=.ok (d::ds)
def consF(r:Fv)(ρ:Rho)(d:D):Res (List D):=(r ρ).bind (consG d)
theorem aCons_at{e:Ev}{r:Fv}{ρ:Rho}:aE e r ρ=(e ρ).bind (consF r ρ):=rfl
def tupF(ds:List D):Res D:=if ds.length<=16777216 then .ok (.tup ds) else .no
theorem eTup_at{a:Fv}{ρ:Rho}:sW a ρ=(a ρ).bind tupF:=rfl
def rtF(r:Rt):Res D:=.ok r.d
def callF(m:Mir)(ds:List D):Res D:=(m ds).bind rtF
theorem eCall_at{m:Mir}{a:Fv}{ρ:Rho}:aP m a ρ=(a ρ).bind (callF m):=rfl
def isTF(T:String)(d:D):Res D:=.ok (.bl (isT T d))
theorem eIsT_at{T:String}{a:Ev}{ρ:Rho}:zRW T a ρ=(a ρ).bind (isTF T):=rfl
def frzF(d:D):Res D:=if noL d=true then .ok d else .no
theorem eFrz_at{e:Ev}{ρ:Rho}:zPW e ρ=(e (ρ.map Sl.frz)).bind frzF:=rfl
def fLstF(ds:List D):Res (List D):=if ds.length<=16777216 then .ok ds else .no
theorem fLst_at{a:Fv}{ρ:Rho}:lQ a ρ=(a ρ).bind fLstF:=rfl
def rtFF:Rt->Res (List D)
 | .f ds=>.ok ds
 | .v _=>.no
def fcallF(m:Mir)(ds:List D):Res (List D):=(m ds).bind rtFF
theorem fCall_at{m:Mir}{a:Fv}{ρ:Rho}:dC m a ρ=(a ρ).bind (fcallF m):=by
 unfold dC fcallF;congr
def zHI:List D->Res (List D)
 | [.lst ds]=>.ok ds
 | [.tup ds]=>.ok ds
 | _=>.no
theorem fListF_l{ds:List D}:zHI [.lst ds]=.ok ds:=rfl
theorem fListF_t{ds:List D}:zHI [.tup ds]=.ok ds:=rfl
theorem fList_at{a:Fv}{ρ:Rho}:zQh a ρ=(a ρ).bind zHI:=rfl
def catG(x y:D):Res (List D):=match x,y with
 | .lst ds,.lst es=>if ds.length+es.length<=16777216 then .ok (ds++es) else .no
 | _,_=>.no
def catF(b:Ev)(ρ:Rho)(x:D):Res (List D):=(b ρ).bind (catG x)
theorem fCat_at{a b:Ev}{ρ:Rho}:zMu a b ρ=(a ρ).bind (catF b ρ):=rfl
def efF(ds:List D):Res D:=.ok (.lst ds)
theorem eF_at{f:Fv}{ρ:Rho}:eF f ρ=(f ρ).bind efF:=rfl
def fFrzF(ds:List D):Res (List D):=if noLs ds=true then .ok ds else .no
theorem fFrz_at{f:Fv}{ρ:Rho}:zNJ f ρ=(f (ρ.map Sl.frz)).bind fFrzF:=rfl
def oSF:D->Res (Option Int)
 | .int i=>.ok (some i)
 | _=>.no
theorem oS_at{e:Ev}{ρ:Rho}:oS e ρ=(e ρ).bind oSF:=by
 unfold oS;congr
def fSlH(x:D)(l h:Option Int):Res (List D):=match x with
 | .lst ds=>.ok (fW ds l h)
 | _=>.no
def fSlG(hi:Ov)(ρ:Rho)(x:D)(l:Option Int):Res (List D):=(hi ρ).bind (fSlH x l)
def fSlF(lo hi:Ov)(ρ:Rho)(x:D):Res (List D):=(lo ρ).bind (fSlG hi ρ x)
theorem fSl_at{a:Ev}{lo hi:Ov}{ρ:Rho}:fSl a lo hi ρ=(a ρ).bind (fSlF lo hi ρ):=rfl
def zSi(x:D)(l h:Option Int):Res D:=match x with
 | .tup ds=>if (fW ds l h).length < ds.length then .ok (.tup (fW ds l h)) else .no
 | _=>.no
def blF:D->Res Bool
 | .bl b=>.ok b
 | _=>.no
theorem tVal_at{e:Ev}{ρ:Rho}:dY e ρ=(e ρ).bind blF:=by
 unfold dY;congr
def notF(b:Bool):Res Bool:=.ok (!b)
theorem tNotB_at{t:Tv}{ρ:Rho}:zKs t ρ=(t ρ).bind notF:=rfl
def zNu(u:Tv)(ρ:Rho):Bool->Res Bool
 | true=>u ρ
 | false=>.ok false
theorem tAndB_at{t u:Tv}{ρ:Rho}:yF t u ρ=(t ρ).bind (zNu u ρ):=by
 unfold yF;congr;funext c;cases c<;>rfl
def zPY(u:Tv)(ρ:Rho):Bool->Res Bool
 | true=>.ok true
 | false=>u ρ
theorem tOrB_at{t u:Tv}{ρ:Rho}:zKS t u ρ=(t ρ).bind (zPY u ρ):=by
 unfold zKS;congr;funext c;cases c<;>rfl
def setF(i:Nat)(ρ:Rho)(d:D):Res Fl:=.ok (.nx (ρ.set i (.val d)))
theorem sSet_at{i:Nat}{e:Ev}{ρ:Rho}:cX i e ρ=(e ρ).bind (setF i ρ):=rfl
def ownF(i:Nat)(ρ:Rho)(ds:List D):Res Fl:=.ok (.nx (ρ.set i (.own ds)))
theorem sOwn_at{i:Nat}{f:Fv}{ρ:Rho}:zBQ i f ρ=(f ρ).bind (ownF i ρ):=rfl
def dropF(ρ:Rho)(_d:D):Res Fl:=.ok (.nx ρ)
theorem sDrop_at{e:Ev}{ρ:Rho}:rC e ρ=(e ρ).bind (dropF ρ):=rfl
def retF(d:D):Res Fl:=.ok (.ret (.v d))
theorem sRet_at{e:Ev}{ρ:Rho}:iA e ρ=(e (ρ.map Sl.frz)).bind retF:=rfl
def retFF(ds:List D):Res Fl:=.ok (.ret (.f ds))
theorem sRetF_at{f:Fv}{ρ:Rho}:hJ f ρ=(f (ρ.map Sl.frz)).bind retFF:=rfl
def raiseF(c:Str)(ds:List D):Res Fl:=if ds.length<=16777216 then .err c else .no
theorem sRaise_at{c:Str}{a:Fv}{ρ:Rho}:jA c a ρ=(a ρ).bind (raiseF c):=rfl
def appF(i:Nat)(ρ:Rho)(ds:List D)(d:D):Res Fl:=if ds.length < 16777216 then .ok (.nx (ρ.set i (.own (ds++[d])))) else .no
def appS(i:Nat)(e:Ev)(ρ:Rho):Option Sl->Res Fl
 | some (.own ds)=>(e ρ).bind (appF i ρ ds)
 | _=>.no
theorem sApp_at{i:Nat}{e:Ev}{ρ:Rho}:zFX i e ρ=appS i e ρ ρ[i]?:=by
 unfold zFX appS;rfl
def extF(i:Nat)(ρ:Rho)(ds:List D)(es:List D):Res Fl:=if ds.length+es.length<=16777216 then .ok (.nx (ρ.set i (.own (ds++es)))) else .no
def extS(i:Nat)(e:Fv)(ρ:Rho):Option Sl->Res Fl
 | some (.own ds)=>(e ρ).bind (extF i ρ ds)
 | _=>.no
theorem sExt_at{i:Nat}{e:Fv}{ρ:Rho}:zJA i e ρ=extS i e ρ ρ[i]?:=by
 unfold zJA extS;rfl
def augF(i:Nat)(ρ:Rho)(o:Op2)(x y:D):Res Fl:=(o x y).bind (setF i ρ)
def augS(i:Nat)(o:Op2)(e:Ev)(ρ:Rho):Option Sl->Res Fl
 | some (.val x)=>(e ρ).bind (augF i ρ o x)
 | _=>.no
theorem sAug_at{i:Nat}{o:Op2}{e:Ev}{ρ:Rho}:zIX i o e ρ=augS i o e ρ ρ[i]?:=by
 unfold zIX augS;rfl
def dropG(ρ:Rho)(_r:Rt):Res Fl:=.ok (.nx ρ)
def setG(i:Nat)(ρ:Rho)(r:Rt):Res Fl:=.ok (.nx (ρ.set i (.val r.d)))
def varS:Option Sl->Res D
 | some (.val d)=>.ok d
 | _=>.no
theorem eVar_at{i:Nat}{ρ:Rho}:aH i ρ=varS ρ[i]?:=by
 unfold aH varS;rfl
def retS:Option Sl->Res Fl
 | some (.own ds)=>.ok (.ret (.f ds))
 | _=>.no
theorem sRetOwn_at{i:Nat}{ρ:Rho}:fT i ρ=retS ρ[i]?:=by
 unfold fT retS;rfl
def nxF(ρ:Rho):Res Fl:=.ok (.nx ρ)
def unpF(g:Gv)(ρ:Rho)(d:D):Res Fl:=(g d ρ).bind nxF
theorem sUnp_at{g:Gv}{f:Ev}{ρ:Rho}:zRZ g f ρ=(f ρ).bind (unpF g ρ):=rfl
def gtF(gs:List D->Rho->Res Rho)(ρ:Rho):D->Res Rho
 | .tup ds=>gs ds ρ
 | _=>.no
theorem gTup_at{gs:List D->Rho->Res Rho}{d:D}{ρ:Rho}:zHv gs d ρ=gtF gs ρ d:=by
 unfold zHv gtF;rfl
theorem gCons_at{g:Gv}{r:List D->Rho->Res Rho}{d:D}{ds:List D}{ρ:Rho}:nM g r (d::ds) ρ=(g d ρ).bind (r ds):=rfl
theorem gNil_at{ρ:Rho}:zIA [] ρ=.ok ρ:=rfl
def forF(g:Gv)(b:Sv)(ρ:Rho)(ds:List D):Res Fl:=gO g b ds ρ
theorem sFor_at{it:Fv}{g:Gv}{b:Sv}{ρ:Rho}:zG it g b ρ=(it ρ).bind (forF g b ρ):=rfl
def zJO:D->Res (List D)
 | .lst ds=>.ok ds
 | .tup ds=>.ok ds
 | _=>.no
theorem seqD_l{ds:List D}:zJO (.lst ds)=.ok ds:=rfl
theorem seqD_t{ds:List D}:zJO (.tup ds)=.ok ds:=rfl
theorem iSeq_at{e:Ev}{ρ:Rho}:qF e ρ=(e ρ).bind zJO:=by
 unfold qF;congr
def zPK:List D->Res (List D)
 | [.int j]=>if -(2^62)<=j/\j < 2^62 then .ok (rng 0 j.toNat 1) else .no
 | _=>.no
theorem iRng1_at{a:Fv}{ρ:Rho}:zCk a ρ=(a ρ).bind zPK:=rfl
def zOp:List D->Res (List D)
 | [.int i,.int j]=>if -(2^62)<=i/\i < 2^62/\-(2^62)<=j/\j < 2^62 then .ok (rng i (j - i).toNat 1) else .no
 | _=>.no
theorem iRng2_at{a:Fv}{ρ:Rho}:zHH a ρ=(a ρ).bind zOp:=rfl
theorem fn_at{p n:Nat}{b:Sv}{ds:List D}(h:ds.length=p):fn p n b ds=(b (start n ds)).bind fin:=by
 unfold fn;rw[if_pos h]
theorem nr{α:Sort _}{a b:α}(h:a=b):a=b:=h
theorem okb{α β:Type}{a:α}{f:α->Res β}:(Res.ok a).bind f=f a:=nr rfl
theorem erb{α β:Type}{c:Str}{f:α->Res β}:(Res.err c).bind f=.err c:=nr rfl
theorem seqF_nx{b:Sv}{ρ:Rho}:zJo b (.nx ρ)=b ρ:=nr rfl
theorem seqF_ret{b:Sv}{r:Rt}:zJo b (.ret r)=.ok (.ret r):=nr rfl
theorem gtF_t{gs:List D->Rho->Res Rho}{ρ:Rho}{ds:List D}:gtF gs ρ (.tup ds)=gs ds ρ:=nr rfl
theorem ifF_t{a b:Sv}{ρ:Rho}:ifF a b ρ true=a ρ:=nr rfl
theorem ifF_f{a b:Sv}{ρ:Rho}:ifF a b ρ false=b ρ:=nr rfl
theorem eifF_t{a b:Ev}{ρ:Rho}:zQr a b ρ true=a ρ:=nr rfl
theorem eifF_f{a b:Ev}{ρ:Rho}:zQr a b ρ false=b ρ:=nr rfl
theorem andF_t{b:Ev}{ρ:Rho}:zQI b ρ (.bl true)=b ρ:=nr rfl
theorem andF_f{b:Ev}{ρ:Rho}:zQI b ρ (.bl false)=.ok (.bl false):=nr rfl
theorem orF_t{b:Ev}{ρ:Rho}:orF b ρ (.bl true)=.ok (.bl true):=nr rfl
theorem orF_f{b:Ev}{ρ:Rho}:orF b ρ (.bl false)=b ρ:=nr rfl
theorem tandF_t{u:Tv}{ρ:Rho}:zNu u ρ true=u ρ:=nr rfl
theorem tandF_f{u:Tv}{ρ:Rho}:zNu u ρ false=.ok false:=nr rfl
theorem torF_t{u:Tv}{ρ:Rho}:zPY u ρ true=.ok true:=nr rfl
theorem torF_f{u:Tv}{ρ:Rho}:zPY u ρ false=u ρ:=nr rfl
theorem oAdd_i{i j:Int}:sV (.int i) (.int j)=.ok (.int (i+j)):=rfl
theorem oAddI_i{i j:Int}:xV (.int i) (.int j)=.ok (.int (i+j)):=rfl
theorem oSub_i{i j:Int}:zCt (.int i) (.int j)=.ok (.int (i - j)):=rfl
theorem oMul_i{i j:Int}(h:jX i j=true):qG (.int i) (.int j)=.ok (.int (i * j)):=if_pos h
theorem oDiv_i{i j:Int}(h:lP j=true):rY (.int i) (.int j)=.ok (.int (i.fdiv j)):=if_pos h
theorem oMod_i{i j:Int}(h:j≠0):vQ (.int i) (.int j)=.ok (.int (i.fmod j)):=if_pos h
theorem oPow_i{i j:Int}(h:rL i j=true):zLm (.int i) (.int j)=.ok (.int (i^j.toNat)):=if_pos h
theorem oEq_i{i j:Int}:oEq (.int i) (.int j)=.ok (.bl (decide (i=j))):=rfl
theorem oNe_i{i j:Int}:oNe (.int i) (.int j)=.ok (.bl (!decide (i=j))):=rfl
theorem oLt_i{i j:Int}:oLt (.int i) (.int j)=.ok (.bl (decide (i < j))):=rfl
theorem oLe_i{i j:Int}:oLe (.int i) (.int j)=.ok (.bl (decide (i<=j))):=rfl
theorem oGt_i{i j:Int}:oGt (.int i) (.int j)=.ok (.bl (decide (j < i))):=rfl
theorem oGe_i{i j:Int}:oGe (.int i) (.int j)=.ok (.bl (decide (j<=i))):=rfl
theorem ofO_some{α:Type}{a:α}:ofO (some a)=.ok a:=rfl
theorem oNeg_i{i:Int}:zAQ (.int i)=.ok (.int (-i)):=rfl
theorem oNot_b{b:Bool}:zRP (.bl b)=.ok (.bl (!b)):=rfl
theorem bAbs_i{i:Int}:zLb [.int i]=.ok (.int (i.natAbs:Int)):=by
 show Res.ok (D.int (if i < 0 then -i else i))=_
 congr 2;split<;>omega
theorem bMin_i{i j:Int}:zOf [.int i,.int j]=.ok (.int (min i j)):=by
 show Res.ok (D.int (if j < i then j else i))=_
 congr 2;split<;>omega
theorem xW{j:Int}(h1:-(2^62)<=j)(h2:j < 2^62):zPK [.int j]=.ok (rng 0 j.toNat 1):=if_pos ⟨h1,h2⟩
theorem zNf{i j:Int}(h1:-(2^62)<=i)(h2:i < 2^62)(h3:-(2^62)<=j)(h4:j < 2^62):zOp [.int i,.int j]=.ok (rng i (j - i).toNat 1):=if_pos ⟨h1,h2,h3,h4⟩
theorem zIl{α:Type}{g:Gv}{b:Sv}{ds:List D}{ρ:Rho}{k:Fl->Res α}{Q:Res α->Prop}(P:Rho->Prop)(h0:P ρ)
  (st:∀ d ρ,d∈ds->P ρ->∃ ρ2,(g d ρ).bind b=.ok (.nx ρ2)/\P ρ2) (fi:∀ ρ',P ρ'->Q (k (.nx ρ'))):Q ((gO g b ds ρ).bind k):=by
 suffices h:∃ ρ',gO g b ds ρ=.ok (.nx ρ')/\P ρ' by
  obtain⟨ρ',e,hp⟩:=h;rw[e];exact fi ρ' hp
 clear fi
 induction ds generalizing ρ with
 | nil=>exact⟨ρ,rfl,h0⟩
 | cons d ds ih=>
  obtain⟨ρ2,e,hp⟩:=st d ρ Qb h0;obtain⟨ρ',e',hp'⟩:=ih hp fun d' ρ' hd=>st d' ρ' (Qc _ hd)
  refine⟨ρ',?_,hp'⟩
  rw[gO]
  cases hg:g d ρ with
  | no=>rw[hg] at e;cases e
  | err c=>rw[hg] at e;cases e
  | ok ρ1=>
   rw[hg] at e;have e2:b ρ1=.ok (.nx ρ2):=e;simp only[Res.bind,e2];exact e'
theorem ty_i{i:Int}:tyN (.int i) = "int" := rfl
theorem ty_b{b:Bool}:tyN (.bl b) = "bool" := rfl
theorem ty_t{ds:List D}:tyN (.tup ds) = "tuple" := rfl
theorem ty_l{ds:List D}:tyN (.lst ds) = "list" := rfl
theorem ty_s{x:Str}:tyN (.str x) = "str" := rfl
theorem ty_n:tyN .non = "NoneType" := rfl
theorem bLen_t{ds:List D}:nQ [.tup ds]=.ok (.int ds.length):=rfl
theorem bLen_l{ds:List D}:nQ [.lst ds]=.ok (.int ds.length):=rfl
theorem bTup_t{ds:List D}:zLk [.tup ds]=.ok (.tup ds):=rfl
theorem bTup_l{ds:List D}:zLk [.lst ds]=.ok (.tup ds):=rfl
theorem mM{α:Type}{g:Gv}{b:Sv}{ds:List D}{ρ:Rho}{k:Fl->Res α}{Q:Res α->Prop}(P:Nat->Rho->Prop)(h0:P 0 ρ)
  (st:∀ i d ρ,ds[i]?=some d->P i ρ->∃ ρ2,(g d ρ).bind b=.ok (.nx ρ2)/\P (i+1) ρ2) (fi:∀ ρ',P ds.length ρ'->Q (k (.nx ρ'))):Q ((gO g b ds ρ).bind k):=by
 suffices h:∀(ds:List D)(j:Nat)(ρ:Rho),P j ρ->(∀ i d ρ,ds[i]?=some d->P (j+i) ρ->∃ ρ2,(g d ρ).bind b=.ok (.nx ρ2)/\P (j+i+1) ρ2)->∃ ρ',gO g b ds ρ=.ok (.nx ρ')/\P (j+ds.length) ρ' by
  obtain⟨ρ',e,hp⟩:=h ds 0 ρ h0 (fun i d ρ hd hp=>by rw[VS] at hp ⊢;exact st i d ρ hd hp)
  rw[e];exact fi ρ' (by rw[VS] at hp;exact hp)
 intro ds
 induction ds with
 | nil=>intro j ρ hp _;exact⟨ρ,rfl,hp⟩
 | cons d ds ih=>
  intro j ρ hp st;obtain⟨ρ2,e,hp2⟩:=st 0 d ρ rfl hp
  obtain⟨ρ',e',hp'⟩:=ih (j+1) ρ2 hp2 fun i d' ρ' hd hp=>by
   have:=st (i+1) d' ρ' (by simpa using hd) (by rw[show j+(i+1)=j+1+i by omega];exact hp)
   rw[show j+(i+1)=j+1+i by omega] at this;exact this
  refine⟨ρ',?_,by rw[Qm,show j+(ds.length+1)=j+1+ds.length by omega];exact hp'⟩
  rw[gO]
  cases hg:g d ρ with
  | no=>rw[hg] at e;cases e
  | err c=>rw[hg] at e;cases e
  | ok ρ1=>
   rw[hg] at e;have e2:b ρ1=.ok (.nx ρ2):=e;simp only[Res.bind,e2];exact e'
theorem zHq{lo c:Int}{n i:Nat}{d:D}(h:(rng lo n c)[i]?=some d):i < n/\d=.int (lo+(i:Int) * c):=by
 unfold rng at h;rw[Qt] at h;by_cases hi:i < n
 ·rw[Vb hi] at h
  cases h;exact⟨hi,rfl⟩
 ·rw[QC (by rw[QA];omega)] at h
  cases h
theorem zDZ{f:Ev}{ρ:Rho}{h:D->D}:∀ {ds:List D},(∀ d∈ds,f (ρ++[.val d])=.ok (h d))->iC jC f ρ ds=.ok (ds.map h)
 | [],_=>rfl
 | d::ds,hf=>by
  rw[iC,hf d Qb];simp only[jC,noErr,Res.bind,if_true];rw[zDZ fun e he=>hf e (Qc _ he)];rfl
def zHY(t:Tv)(f:Ev)(ρ:Rho)(ds:List D):Res (List D):=if ds.length<=16777215 then iC t f ρ ds else .no
theorem fComp_at{it:Fv}{t:Tv}{f:Ev}{ρ:Rho}:jE it t f ρ=(it ρ).bind (zHY t f ρ):=rfl
theorem zCh{f:Ev}{ρ:Rho}{h:D->D}{ds:List D}(hl:ds.length<=16777215)(hf:∀ d∈ds,f (ρ++[.val d])=.ok (h d)):zHY jC f ρ ds=.ok (ds.map h):=by
 unfold zHY;rw[if_pos hl,zDZ hf]
theorem zNl{d:D}(h:dep d<=50):oNe d d=.ok (.bl false):=by unfold oNe;rw[if_pos h,tG];rfl
theorem zJu{ds:List D}{k:Int}(h:0<=k):fW ds none (some k)=ds.take k.toNat:=by
 unfold fW cut;simp only[h,if_true,VT,Nat.sub_zero];rcases Xa k.toNat ds.length with l | l
 ·rw[VU l]
 ·rw[Xj l,Vc,VV l]
theorem zEq{α:Type}(l:List α)(a:Nat):l.drop (min a l.length)=l.drop a:=by
 rcases Xa a l.length with h | h
 ·rw[VU h]
 ·rw[Xj h,List.drop_length,Xc h]
theorem zId{ds:List D}{a b:Int}(h1:0<=a)(h2:0<=b):fW ds (some a) (some b)=(ds.drop a.toNat).take (b.toNat - a.toNat):=by
 unfold fW cut;simp only[h1,h2,if_true];rw[zEq];rcases Xa ds.length a.toNat with c | c
 ·rw[Xc c,List.take_nil,List.take_nil]
 ·rw[VU c]
  rcases Xa b.toNat ds.length with d | d
  ·rw[VU d]
  ·rw[Xj d,VV (by rw[QZ];exact Qh _),VV (by rw[QZ];exact Nat.sub_le_sub_right d _)]
theorem zFB{ds:List D}{a:Int}(h1:0<=a):fW ds (some a) none=ds.drop a.toNat:=by
 unfold fW cut;simp only[h1,if_true];rw[zEq,VV (by rw[QZ];omega)]
theorem nR{α:Type}{f:α->D}{l:List α}{i:Int}{a:α}(h0:0<=i)(h:l[i.toNat]?=some a):oIx (.lst (l.map f)) (.int i)=.ok (f a):=by
 show ofO (atD (l.map f) i)=_
 unfold atD;rw[if_pos h0,Qt,h];rfl
def popS(i:Nat)(ρ:Rho):Option Sl->Res Fl
 | some (.own ds)=>if ds.length=0 then .no else .ok (.nx (ρ.set i (.own ds.dropLast)))
 | _=>.no
theorem sPop_at{i:Nat}{ρ:Rho}:zOe i ρ=popS i ρ ρ[i]?:=by unfold zOe popS;rfl
theorem oIx_tc{d:D}{ds:List D}{i:Int}:oIx (.tup (d::ds)) (.int i)=ofO (atD (d::ds) i):=rfl
theorem oK{α:Type}{f:α->D}{l:List α}{i:Int}{a:α}(h0:0<=i)(h:l[i.toNat]?=some a):oIx (.tup (l.map f)) (.int i)=.ok (f a):=by
 show ofO (atD (l.map f) i)=_
 unfold atD;rw[if_pos h0,Qt,h];rfl
theorem zLw{α:Type}{f:α->D}{l:List α}{k:Nat}{a:α}(h0:0 < k)(h:k<=l.length)(h2:l[l.length - k]?=some a):atD (l.map f) (-(k:Int))=some (f a):=by
 unfold atD;rw[if_neg (by omega),Qg,if_pos (by omega),show((l.length:Int)+-(k:Int)).toNat=l.length - k by omega,Qt,h2];rfl
theorem zCJ{α:Type}{f:α->D}{l:List α}{k:Nat}{i:Int}{a:α}(hi:i=-(k:Int))(h0:0 < k)(h:k<=l.length)(h2:l[l.length - k]?=some a):oIx (.lst (l.map f)) (.int i)=.ok (f a):=by
 show ofO (atD (l.map f) i)=_
 rw[hi,zLw h0 h h2];rfl
theorem zGP{α:Type}{f:α->D}{l:List α}{k:Nat}{i:Int}{a:α}(hi:i=-(k:Int))(h0:0 < k)(h:k<=l.length)(h2:l[l.length - k]?=some a):oIx (.tup (l.map f)) (.int i)=.ok (f a):=by
 show ofO (atD (l.map f) i)=_
 rw[hi,zLw h0 h h2];rfl
def zQe(ds:List D):D->Res (List D)
 | .int k=>if 0<=k/\k < 2^62/\ds.length * k.toNat<=16777216 then .ok (List.replicate k.toNat ds).flatten else .no
 | _=>.no
def repF(g:Ev)(ρ:Rho)(ds:List D):Res (List D):=(g ρ).bind (zQe ds)
theorem fRep_at{f:Fv}{g:Ev}{ρ:Rho}:zMi f g ρ=(f ρ).bind (repF g ρ):=by
 unfold zMi repF;congr
theorem zEg{d:D}{k:Nat}(h:k<=16777216):zQe [d] (.int (k:Int))=.ok (List.replicate k d):=by
 have e:∀ n,(List.replicate n [d]).flatten=List.replicate n d:=by
  intro n
  induction n with
  | zero=>rfl
  | succ n ih=>rw[Vy,VI,ih];rfl
 unfold zQe;dsimp only
 rw[if_pos ⟨by omega,by omega,by simp only[Qm,Xd,QW];omega⟩,QW,e]
theorem zIH{α:Type}{u:α->D}{f:Ev}{ρ:Rho}{g:α->D}:∀ {l:List α},(∀ a∈l,f (ρ++[.val (u a)])=.ok (g a))->iC jC f ρ (l.map u)=.ok (l.map g)
 | [],_=>rfl
 | a::l,h=>by
  rw[Qv,iC,h a Qb];simp only[jC,noErr,Res.bind,if_true];rw[zIH fun b hb=>h b (Qc _ hb)];rfl
theorem eT{α:Type}{u:α->D}{f:Ev}{ρ:Rho}{g:α->D}{l:List α}(hl:l.length<=16777215)(h:∀ a∈l,f (ρ++[.val (u a)])=.ok (g a)):zHY jC f ρ (l.map u)=.ok (l.map g):=by
 unfold zHY;rw[if_pos (by rw[Qg];exact hl),zIH h]
theorem bSum_l{ns:List Int}:zAS [.lst (ns.map D.int)]=.ok (.int ns.sum):=by
 have e:∀ ns:List Int,nO (ns.map D.int)=some ns:=by
  intro ns
  induction ns with
  | nil=>rfl
  | cons i ns ih=>rw[Qv,nO,ih]
 show(match nO (ns.map D.int) with | some ns=>Res.ok (D.int ns.sum) | none=>.no)=_
 rw[e]
theorem bSum_t{ns:List Int}:zAS [.tup (ns.map D.int)]=.ok (.int ns.sum):=by
 have e:∀ ns:List Int,nO (ns.map D.int)=some ns:=by
  intro ns
  induction ns with
  | nil=>rfl
  | cons i ns ih=>rw[Qv,nO,ih]
 show(match nO (ns.map D.int) with | some ns=>Res.ok (D.int ns.sum) | none=>.no)=_
 rw[e]
def slI(i:Nat)(ρ:Rho):Int:=match ρ[i]? with
 | some (.val (.int x))=>x
 | _=>0
theorem chO_s{c:Nat}:chO (some c)=.ok (.str ⟨#[c]⟩):=rfl
theorem zOQ{x:Str}:dep (.str x)<=50:=by simp[dep]
theorem oEq_s{x y:Str}:oEq (.str x) (.str y)=.ok (.bl (x==y)):=by
 unfold oEq;rw[if_pos zOQ,eqD]
theorem oNe_s{x y:Str}:oNe (.str x) (.str y)=.ok (.bl (!(x==y))):=by
 unfold oNe;rw[if_pos zOQ,eqD]
theorem dL{g:Gv}{b:Sv}{d:D}{ds:List D}{ρ ρ1 ρ2:Rho}(hg:g d ρ=.ok ρ1)(hb:b ρ1=.ok (.nx ρ2)):gO g b (d::ds) ρ=gO g b ds ρ2:=by
 rw[gO];simp only[hg,Res.bind,hb]
theorem oTabNot_s{T:List (Str×Str)}{x:Str}:qS T (.str x)=.ok (.bl (!(T.lookup x).isSome)):=rfl
theorem zBw{α:Type}(p:α->Int):∀ l:List α,nO (l.map fun a=>D.int (p a))=some (l.map p)
 | []=>rfl
 | a::l=>by rw[Qv,nO,zBw p l];rfl
def mx0:List Int->Int
 | []=>0
 | a::r=>zAI a r
theorem zBq{α:Type}{p:α->Int}{l:List α}(h:0 < l.length):zBz [.lst (l.map fun a=>D.int (p a))]=.ok (.int (mx0 (l.map p))):=by
 show(match nO (l.map fun a=>D.int (p a)) with | some (a::r)=>Res.ok (D.int (zAI a r)) | _=>.no)=_
 rw[zBw]
 cases l with
 | nil=>cases h
 | cons a r=>rfl
def zQY:List D->Res (List D)
 | [x,y]=>match zIY x,zIY y with
  | some xs,some ys=>.ok (jT xs ys)
  | _,_=>.no
 | _=>.no
theorem iZip_at{a:Fv}{ρ:Rho}:zKV a ρ=(a ρ).bind zQY:=by
 unfold zKV;congr
theorem oG{x y:D}{xs ys:List D}(hx:zIY x=some xs)(hy:zIY y=some ys):zQY [x,y]=.ok (jT xs ys):=by
 show(match zIY x,zIY y with | some xs,some ys=>Res.ok (jT xs ys) | _,_=>.no)=_
 rw[hx,hy]
def zHr(f:Ev)(ρ:Rho)(ds:List D):Res (List D):=if ds.length<=16777215 then fY f ρ ds else .no
theorem fComp2_at{it:Fv}{f:Ev}{ρ:Rho}:uG it f ρ=(it ρ).bind (zHr f ρ):=rfl
theorem zEW{α β:Type}{u:α->D}{v:β->D}{f:Ev}{ρ:Rho}{g:α->β->D}:∀ {l:List α} {m:List β},(∀ p∈l.zip m,f (ρ++[.val (u p.1),.val (v p.2)])=.ok (g p.1 p.2))->
  fY f ρ (jT (l.map u) (m.map v))=.ok ((l.zip m).map fun p=>g p.1 p.2)
 | [],m,h=>by cases m<;>rfl
 | a::l,[],h=>rfl
 | a::l,b::m,h=>by
  have h1:=h (a,b) Qb;have h2:=zEW (l:=l) (m:=m) (u:=u) (v:=v) (g:=g) fun p hp=>h p (Qc _ hp)
  show(noErr (f (ρ++[.val (u a),.val (v b)]))).bind (fun e=>(fY f ρ (jT (l.map u) (m.map v))).bind fun es=>.ok (e::es))=_
  rw[h1,h2];rfl
theorem lT{α β:Type}{u:α->D}{v:β->D}{f:Ev}{ρ:Rho}{g:α->β->D}{l:List α}{m:List β}(hl:l.length<=16777215)(h:∀ p∈l.zip m,f (ρ++[.val (u p.1),.val (v p.2)])=.ok (g p.1 p.2)):
  zHr f ρ (jT (l.map u) (m.map v))=.ok ((l.zip m).map fun p=>g p.1 p.2):=by
 unfold zHr;rw[if_pos,zEW h]
 have:∀(a b:List D),(jT a b).length<=a.length:=by
  intro a
  induction a with
  | nil=>intro b;cases b<;>exact Qh _
  | cons x a ih=>intro b;cases b with
   | nil=>exact Vd _
   | cons y b=>exact XM (ih b)
 exact QB (this _ _) (by rw[Qg];exact hl)
end L3
namespace Ln
open Fq
abbrev Pt:=Rat×Rat
def asc(a b:Pt):Prop:=a.1 < b.1/\a.2<=b.2
def btw(a b c:Pt):Bool:=decide ((b.2 - a.2) * (c.1 - b.1)=(c.2 - b.2) * (b.1 - a.1))
def push:List Pt->Pt->List Pt
 | b::a::s,c=>if btw a b c=true then c::a::s else c::b::a::s
 | s,c=>c::s
theorem zFy{s:List Pt}{c:Pt}(h:¬ 1 < s.length):push s c=c::s:=by
 match s,h with
 | [],_=>rfl
 | [b],_=>rfl
 | b::a::s,h=>exact absurd (show 1 < s.length+2 by omega) h
def lL(ps:List Pt):List Pt:=(ps.foldl push []).reverse
def few:Pt->List Pt->List Pt
 | _,[]=>[]
 | _,[b]=>[b]
 | a,b::c::r=>if btw a b c=true then few b (c::r) else b::few b (c::r)
def zBH:List Pt->List Pt
 | []=>[]
 | a::r=>a::few a r
def dir(a p b:Pt):Prop:=a.1 < b.1/\p.1 < b.1/\(b.2 - a.2) * (b.1 - p.1)=(b.2 - p.2) * (b.1 - a.1)
theorem lG{x a b:Rat}(h:x≠0)(e:a * x=b * x):a=b:=by
 have:a * x * x⁻¹=b * x * x⁻¹:=by rw[e]
 rw[Rat.mul_assoc,Rat.mul_assoc,Vq _ h,Rat.mul_one,Rat.mul_one] at this;exact this
theorem tZ{a p b c:Pt}(h:dir a p b):btw a b c=btw p b c:=by
 obtain⟨h1,h2,h3⟩:=h;unfold btw;have n1:b.1 - a.1≠0:=by grind
 have n2:b.1 - p.1≠0:=by grind
 congr 1
 apply propext
 constructor
 ·intro e
  refine lG n1 ?_
  grind
 ·intro e
  refine lG n2 ?_
  grind
theorem zCY{a b c:Pt}(h:a.1 < b.1)(k:b.1 < c.1)(e:btw a b c=true):dir a b c:=by
 have e:=of_decide_eq_true e;refine⟨by grind,k,?_⟩
 grind
theorem yQ:∀(r:List Pt)(p b a:Pt)(s:List Pt),dir a p b->(b::r).Pairwise asc->(r.foldl push (b::a::s)).reverse=(a::s).reverse++few p (b::r)
 | [],p,b,a,s,_,_=>by simp[few]
 | c::r,p,b,a,s,h,hp=>by
  have hbc:asc b c:=(Qq.mp hp).1 c Qb;have hr:=(Qq.mp hp).2;rw[XB,push,few,tZ h];by_cases e:btw p b c=true
  ·rw[if_pos e,if_pos e]
   exact yQ r b c a s (zCY h.1 hbc.1 (by rw[tZ h];exact e)) hr
  ·rw[if_neg e,if_neg e,yQ r b c b (a::s) ⟨hbc.1,hbc.1,rfl⟩ hr]
   simp
theorem pD{ps:List Pt}(h:ps.Pairwise asc):lL ps=zBH ps:=by
 unfold lL
 match ps,h with
 | [],_=>rfl
 | [a],_=>rfl
 | a::b::r,h=>
  have hab:=(Qq.mp h).1 b Qb;show(r.foldl push [b,a]).reverse=_
  rw[yQ r a b a [] ⟨hab.1,hab.1,rfl⟩ (Qq.mp h).2];rfl
theorem zDD:∀(r:List Pt)(a:Pt),(few a r).Sublist r
 | [],_=>List.Sublist.slnil
 | [b],_=>List.Sublist.refl _
 | b::c::r,a=>by
  rw[few];split
  ·exact(zDD (c::r) b).cons b
  ·exact(zDD (c::r) b).cons₂ b
theorem xM(ps:List Pt):(zBH ps).Sublist ps:=by
 cases ps with
 | nil=>exact List.Sublist.slnil
 | cons a r=>exact(zDD r a).cons₂ a
theorem zDT:∀(r:List Pt)(a:Pt),(few a r).getLast?=r.getLast?
 | [],_=>rfl
 | [b],_=>rfl
 | b::c::r,a=>by
  have ih:=zDT (c::r) b;rw[few];split
  ·rw[ih];rfl
  ·rw[Xe,ih]
   simp[Xe]
theorem zDb(ps:List Pt):(zBH ps).getLast?=ps.getLast?:=by
 cases ps with
 | nil=>rfl
 | cons a r=>rw[zBH,Xe,zDT,Xe]
def zNE:List Pt->Prop
 | a::b::c::r=>btw a b c=false/\zNE (b::c::r)
 | _=>True
theorem zEC:∀(r:List Pt)(p b:Pt),(p::b::r).Pairwise asc->∃ d t,few p (b::r)=d::t/\b.1<=d.1/\(d.2 - p.2) * (b.1 - p.1)=(b.2 - p.2) * (d.1 - p.1)
 | [],p,b,_=>⟨b,[],rfl,Qd,rfl⟩
 | c::r,p,b,h=>by
  have h1:=Qq.mp h;have h2:=Qq.mp h1.2;have pb:=h1.1 b Qb;have bc:=h2.1 c Qb;rw[few];by_cases e:btw p b c=true
  ·rw[if_pos e]
   obtain⟨d,t,e1,l,e2⟩:=zEC r b c h1.2;have e3:=of_decide_eq_true e;refine⟨d,t,e1,by grind [asc],?_⟩
   have n:c.1 - b.1≠0:=by grind [asc]
   refine lG n ?_
   have e4:(d.2 - b.2) * (b.1 - p.1)=(b.2 - p.2) * (d.1 - b.1):=by
    refine lG n ?_
    grind
   grind
  ·rw[if_neg e]
   exact⟨b,_,rfl,Qd,rfl⟩
theorem zH:∀(r:List Pt)(a p b:Pt),dir a p b->(b::r).Pairwise asc->(p::b::r).Pairwise asc->zNE (a::few p (b::r))
 | [],a,p,b,_,_,_=>by simp[few,zNE]
 | c::r,a,p,b,h,hb,hp=>by
  have bc:=(Qq.mp hb).1 c Qb;have hc:=(Qq.mp hb).2;rw[few];by_cases e:btw p b c=true
  ·rw[if_pos e]
   exact zH r a b c (zCY h.1 bc.1 (by rw[tZ h];exact e)) hc hb
  ·rw[if_neg e]
   have ih:=zH r b b c ⟨bc.1,bc.1,rfl⟩ hc hb;obtain⟨d,t,e1,l,e2⟩:=zEC r b c hb;rw[e1] at ih ⊢
   refine⟨?_,ih⟩
   rw[tZ h];rw[Bool.eq_false_iff];intro z;apply e
   have z:=of_decide_eq_true z;refine decide_eq_true ?_
   have n:d.1 - b.1≠0:=by grind [asc]
   refine lG n ?_
   grind
theorem zDG{ps:List Pt}(h:ps.Pairwise asc):zNE (zBH ps):=by
 match ps,h with
 | [],_=>trivial
 | [a],_=>trivial
 | a::b::r,h=>
  have hab:=(Qq.mp h).1 b Qb;exact zH r a a b ⟨hab.1,hab.1,rfl⟩ (Qq.mp h).2 h
def Ok(ps:List Pt):Prop:=ps.head?=some (0,0)/\ps.Pairwise asc
def zNH(ps:List Pt):Prop:=Ok ps/\zNE ps
theorem kL{ps:List Pt}(h:Ok ps):zNH (lL ps):=by
 rw[pD h.2];refine⟨⟨?_,h.2.sublist (xM ps)⟩,zDG h.2⟩
 obtain⟨h,_⟩:=h
 cases ps with
 | nil=>cases h
 | cons a r=>exact h
theorem iG{ps:List Pt}(h:ps.Pairwise asc){i j:Nat}{a b:Pt}(l:i < j)(ha:ps[i]?=some a)(hb:ps[j]?=some b):asc a b:=by
 obtain⟨hi,rfl⟩:=Qx.mp ha;obtain⟨hj,rfl⟩:=Qx.mp hb;exact Xk.mp h i j hi hj l
theorem lt_iff{p q:Rat}:p.num * q.den < q.num * p.den ↔ p < q:=Rat.lt_iff p q |>.symm
theorem zFH{t b:Int}(ht:0 < t)(hb:0 < b):0 < Rat.divInt t b:=by
 rw[VA];have h1:(0:Rat) < (t:Rat):=by exact_mod_cast ht
 have h2:(0:Rat) < (b:Rat):=by exact_mod_cast hb
 rw[QI];exact XN h1 (XO.mpr h2)
theorem zGU{t b:Int}(ht:0<=t)(hb:0 < b):0<=Rat.divInt t b:=by
 rcases Int.lt_or_eq_of_le ht with h | h
 ·exact Qf (zFH h hb)
 ·rw[<-h,XQ];exact Qd
def itp(p q:Pt)(x:Rat):Rat:=p.2+(x - p.1) / (q.1 - p.1) * (q.2 - p.2)
def bC:List Pt->Rat->Rat
 | [],_=>0
 | [p],_=>p.2
 | p::q::r,x=>if x<=q.1 then itp p q x else bC (q::r) x
theorem zJx(p q:Pt):itp p q p.1=p.2:=by
 unfold itp;rw[Rat.sub_self,QI,XR,XR,Rat.add_zero]
theorem zOv{p q:Pt}(h:p.1 < q.1):itp p q q.1=q.2:=by
 unfold itp;have n:q.1 - p.1≠0:=by grind
 rw[QI,Vq _ n,Rat.one_mul];grind
theorem bP:∀ {ps:List Pt},ps.Pairwise asc->∀ {i:Nat} {p:Pt},ps[i]?=some p->bC ps p.1=p.2
 | [],_,i,p,hp=>by cases hp
 | [a],_,i,p,hp=>by
  cases i with
  | zero=>cases hp;rfl
  | succ i=>cases hp
 | a::b::r,h,i,p,hp=>by
  have hab:=(Qq.mp h).1 b Qb;rw[bC]
  match i,hp with
  | 0,hp=>
   cases hp;rw[if_pos (Qf hab.1),zJx]
  | 1,hp=>
   cases hp;rw[if_pos Qd,zOv hab.1]
  | i+2,hp=>
   have hb:asc b p:=iG h (show 1 < i+2 by omega) rfl hp
   rw[if_neg (by have:=hb.1;grind)];exact bP (Qq.mp h).2 (i:=i+1) hp
theorem bX:∀ {ps:List Pt},ps.Pairwise asc->∀ {i:Nat} {p q:Pt} {x:Rat},ps[i]?=some p->ps[i+1]?=some q->p.1<=x->x<=q.1->bC ps x=itp p q x
 | [],_,i,p,q,x,hp,_,_,_=>by cases hp
 | [a],_,i,p,q,x,hp,hq,_,_=>by cases hq
 | a::b::r,h,i,p,q,x,hp,hq,h1,h2=>by
  have hab:=(Qq.mp h).1 b Qb
  cases i with
  | zero=>
   cases hp;cases hq;rw[bC,if_pos h2]
  | succ i=>
   have hr:=(Qq.mp h).2;by_cases c:x=p.1
   ·subst c
    rw[zJx];exact bP h hp
   ·rw[bC,if_neg]
    ·exact bX hr (i:=i) hp hq h1 h2
    ·intro z
     cases i with
     | zero=>
      cases hp;exact c (by grind)
     | succ i=>
      have hb:asc b p:=iG h (show 1 < i+1+1 by omega) rfl hp
      have:=hb.1
      grind
def ax:Bool->Pt->Rat
 | false,p=>p.1
 | true,p=>p.2
def axi:Bool->Int
 | false=>0
 | true=>1
theorem jZ{ps:List Pt}(h:ps.Pairwise asc)(b:Bool){i j:Nat}{p q:Pt}(l:i<=j)(hp:ps[i]?=some p)(hq:ps[j]?=some q):ax b p<=ax b q:=by
 rcases Vr l with l | l
 ·have:=iG h l hp hq
  cases b
  ·exact Qf this.1
  ·exact this.2
 ·subst l
  rw[hp] at hq;cases hq;exact Qd
theorem rR:∀ {ps:List Pt} {e:Pt} {x:Rat},ps.Pairwise asc->ps.getLast?=some e->(∀ p,ps.head?=some p->p.1<=x)->x<=e.1->
  (∃(i:Nat)(p:Pt),ps[i]?=some p/\p.1=x)∨∃(i:Nat)(p q:Pt),ps[i]?=some p/\ps[i+1]?=some q/\p.1 < x/\x < q.1
 | [],e,x,_,he,_,_=>by cases he
 | [a],e,x,_,he,h0,h1=>by
  cases he;have:=h0 a rfl
  exact .inl ⟨0,a,rfl,by grind⟩
 | a::b::r,e,x,h,he,h0,h1=>by
  have ha:=h0 a rfl;by_cases c:a.1=x
  ·exact .inl ⟨0,a,rfl,c⟩
  by_cases d:x < b.1
  ·exact .inr ⟨0,a,b,rfl,rfl,by grind,d⟩
  ·rcases rR (Qq.mp h).2 (by rw[<-he];simp[Xe]) (fun p hp=>by cases hp;grind) h1 with⟨i,p,h2,h3⟩ | ⟨i,p,q,h2,h3,h4⟩
   ·exact .inl ⟨i+1,p,h2,h3⟩
   ·exact .inr ⟨i+1,p,q,h2,h3,h4⟩
theorem yN{p q:Pt}(h:asc p q){x y:Rat}(l:x<=y):itp p q x<=itp p q y:=by
 unfold itp;have n:0 < (q.1 - p.1)⁻¹:=XO.mpr (by have:=h.1;grind)
 rw[QI,QI];have m1:(x - p.1) * (q.1 - p.1)⁻¹<=(y - p.1) * (q.1 - p.1)⁻¹:=Q3 (by grind) (Qf n)
 have m2:=Q3 m1 (show 0<=q.2 - p.2 by have:=h.2;grind)
 grind
theorem oM{p q:Pt}(h:asc p q){x:Rat}(h1:p.1<=x)(h2:x<=q.1):p.2<=itp p q x/\itp p q x<=q.2:=by
 have a:=yN h h1;have b:=yN h h2;rw[zJx] at a;rw[zOv h.1] at b;exact⟨a,b⟩
theorem dI{ps:List Pt}{e:Pt}(h:Ok ps)(he:ps.getLast?=some e){x y:Rat}(h0:0<=x)(l:x<=y)(h1:y<=e.1):bC ps x<=bC ps y:=by
 obtain⟨hh,hp⟩:=h;have hd:∀ z,0<=z->∀ p,ps.head?=some p->p.1<=z:=fun z hz p hp=>by rw[hh] at hp;cases hp;exact hz
 have key:∀ {i j:Nat} {p q:Pt},i<=j->ps[i]?=some p->ps[j]?=some q->p.2<=q.2:=fun l hp' hq'=>jZ hp true l hp' hq'
 have kx:∀ {i j:Nat} {p q:Pt},ps[i]?=some p->ps[j]?=some q->p.1 < q.1->i < j:=by
  intro i j p q hp' hq' l;rcases XS i j with g | g
  ·exact g
  ·have:=jZ hp false g hq' hp'
   exact absurd (show q.1<=p.1 from this) (by grind)
 rcases rR hp he (hd x h0) (by grind) with⟨i,p,ip,ep⟩ | ⟨i,p,q,ip,iq,lp,lq⟩
 ·rcases rR hp he (hd y (by grind)) h1 with⟨j,u,ju,eu⟩ | ⟨j,u,v,ju,jv,lu,lv⟩
  ·rw[<-ep,<-eu,bP hp ip,bP hp ju]
   by_cases c:p.1=u.1
   ·have a1:=bP hp ip
    have a2:=bP hp ju;rw[c,a2] at a1;rw[a1];exact Qd
   ·exact key (Vn (kx ip ju (by grind))) ip ju
  ·rw[<-ep,bP hp ip,bX hp ju jv (Qf lu) (Qf lv)]
   have huv:=iG hp (QT j) ju jv;have b:=oM huv (Qf lu) (Qf lv);have:i < j+1:=kx ip jv (by grind)
   have:=key (show i<=j by omega) ip ju
   grind
 ·rcases rR hp he (hd y (by grind)) h1 with⟨j,u,ju,eu⟩ | ⟨j,u,v,ju,jv,lu,lv⟩
  ·rw[<-eu,bP hp ju,bX hp ip iq (Qf lp) (Qf lq)]
   have hpq:=iG hp (QT i) ip iq;have b:=oM hpq (Qf lp) (Qf lq);have:i < j:=kx ip ju (by grind)
   have:=key (show i+1<=j by omega) iq ju
   grind
  ·rw[bX hp ip iq (Qf lp) (Qf lq),bX hp ju jv (Qf lu) (Qf lv)]
   have hpq:=iG hp (QT i) ip iq;have huv:=iG hp (QT j) ju jv;have g1:i < j+1:=kx ip jv (by grind)
   rcases Vr (show i<=j by omega) with g | g
   ·have b1:=oM hpq (Qf lp) (Qf lq)
    have b2:=oM huv (Qf lu) (Qf lv);have:=key (show i+1<=j by omega) iq ju
    grind
   ·subst g
    rw[ip] at ju;rw[iq] at jv;cases ju;cases jv;exact yN hpq l
theorem pF{ps:List Pt}{e:Pt}(h:Ok ps)(he:ps.getLast?=some e){x:Rat}(h0:0<=x)(h1:x<=e.1):0<=bC ps x/\bC ps x<=e.2:=by
 have z:bC ps 0=0:=bP h.2 (i:=0) (p:=(0,0)) (by rw[<-Vs];exact h.1)
 have t:bC ps e.1=e.2:=bP h.2 (i:=ps.length - 1) (by rw[<-Vk];exact he)
 have e0:0<=e.1:=by grind
 have a:=dI h he (Qd) h0 h1;have b:=dI h he h0 h1 Qd;grind
theorem zFg{a b c:Pt}(h1:a.1 < b.1)(h2:b.1 < c.1)(e:btw a b c=true):(b.2 - a.2) / (b.1 - a.1)=(c.2 - a.2) / (c.1 - a.1)/\(c.2 - b.2) / (c.1 - b.1)=(c.2 - a.2) / (c.1 - a.1):=by
 have e:=of_decide_eq_true e;have n1:b.1 - a.1≠0:=by grind
 have n2:c.1 - b.1≠0:=by grind
 have n3:c.1 - a.1≠0:=by grind
 have i1:=Vq _ n1;have i2:=Vq _ n2;have i3:=Vq _ n3;rw[QI,QI,QI];constructor
 ·refine lG n1 (lG n3 ?_)
  grind
 ·refine lG n2 (lG n3 ?_)
  grind
theorem gT(p q:Pt)(x:Rat):itp p q x=p.2+(x - p.1) * ((q.2 - p.2) / (q.1 - p.1)):=by
 unfold itp;rw[QI,QI];grind
theorem zJB{a b c:Pt}(h1:a.1 < b.1)(h2:b.1 < c.1)(e:btw a b c=true)(x:Rat):itp a b x=itp a c x/\itp b c x=itp a c x:=by
 obtain⟨s1,s2⟩:=zFg h1 h2 e;rw[gT,gT,gT,s1,s2];refine⟨rfl,?_⟩
 have n1:b.1 - a.1≠0:=by grind
 have i1:=Vq _ n1;rw[<-s1,QI];generalize (b.1 - a.1)⁻¹=u at i1;grind
theorem zJf{a b c:Pt}{r:List Pt}(h1:a.1 < b.1)(h2:b.1 < c.1)(e:btw a b c=true)(x:Rat):bC (a::b::c::r) x=bC (a::c::r) x:=by
 obtain⟨e1,e2⟩:=zJB h1 h2 e x;rw[bC,bC,bC,e1,e2];by_cases c1:x<=b.1
 ·rw[if_pos c1,if_pos (by grind)]
 ·rw[if_neg c1]
theorem zDf:∀(r:List Pt)(a p b:Pt)(x:Rat),dir a p b->(b::r).Pairwise asc->bC (a::few p (b::r)) x=bC (a::b::r) x
 | [],a,p,b,x,_,_=>rfl
 | c::r,a,p,b,x,h,hb=>by
  have bc:=(Qq.mp hb).1 c Qb;have hc:=(Qq.mp hb).2;rw[few];by_cases e:btw p b c=true
  ·have e':btw a b c=true:=by rw[tZ h];exact e
   rw[if_pos e,zDf r a b c x (zCY h.1 bc.1 e') hc,zJf h.1 bc.1 e']
  ·show _=(if x<=b.1 then itp a b x else bC (b::c::r) x)
   rw[if_neg e,bC,zDf r b b c x ⟨bc.1,bc.1,rfl⟩ hc]
theorem xU{ps:List Pt}(h:ps.Pairwise asc)(x:Rat):bC (lL ps) x=bC ps x:=by
 rw[pD h]
 match ps,h with
 | [],_=>rfl
 | [a],_=>rfl
 | a::b::r,h=>
  have hab:=(Qq.mp h).1 b Qb;exact zDf r a a b x ⟨hab.1,hab.1,rfl⟩ (Qq.mp h).2
theorem uD{ps:List Pt}(h:ps.Pairwise asc):(lL ps).getLast?=ps.getLast?:=by rw[pD h,zDb]
theorem mZ{ps:List Pt}(h:ps.Pairwise asc):(lL ps).Sublist ps:=by rw[pD h];exact xM ps
theorem zIh{C:List Rat}(h:C.Pairwise (· < ·))(h0:(0:Rat)∈C)(hn:∀ x∈C,0<=x):C.head?=some 0:=by
 cases C with
 | nil=>cases h0
 | cons a C=>
  rcases Qe.mp h0 with e | e
  ·rw[<-e];rfl
  ·have h1:=(Qq.mp h).1 0 e
   have h2:=hn a Qb;grind
theorem zLR{C:List Rat}{e L:Rat}(h:C.Pairwise (· < ·))(he:C.getLast?=some e)(hL:L∈C)(hn:∀ x∈C,x<=L):e=L:=by
 obtain⟨j,hj⟩:=VW.mp hL;rw[Vk] at he;have hjl:=(Qx.mp hj).1;have h1:=hn e (Qi he);rcases Vr (show j<=C.length - 1 by omega) with l | l
 ·obtain⟨hi,e1⟩:=Qx.mp hj
  obtain⟨hi2,e2⟩:=Qx.mp he;have:=Xk.mp h j (C.length - 1) hi hi2 l
  rw[e1,e2] at this;grind
 ·subst l
  rw[he] at hj;cases hj;rfl
theorem zNh{ps:List Pt}(h:ps.Pairwise asc):(ps.map Prod.fst).Pairwise (· < ·):=VB.mpr (h.imp fun a=>a.1)
theorem cZ{ps:List Pt}{e p:Pt}(h:Ok ps)(he:ps.getLast?=some e)(hp:p∈ps):0<=p.1/\p.1<=e.1/\0<=p.2/\p.2<=e.2:=by
 obtain⟨i,hi⟩:=VW.mp hp;have hil:=(Qx.mp hi).1;have h0:ps[0]?=some (0,0):=by rw[<-Vs];exact h.1
 rw[Vk] at he;have a1:(0:Rat)<=p.1:=jZ h.2 false (Vd i) h0 hi;have a2:(0:Rat)<=p.2:=jZ h.2 true (Vd i) h0 hi;have b1:p.1<=e.1:=jZ h.2 false (show i<=ps.length - 1 by omega) hi he
 have b2:p.2<=e.2:=jZ h.2 true (show i<=ps.length - 1 by omega) hi he
 exact⟨a1,b1,a2,b2⟩
theorem zGD{ps:List Pt}{e:Pt}{a b x:Rat}(h:Ok ps)(he:ps.getLast?=some e)(h0:0<=a)(hab:a < b)(hb:b<=e.1)(hno:∀ p∈ps,a < p.1->b<=p.1)(hx:a<=x)(xb:x<=b):
  (bC ps x - bC ps a) * (b - a)=(bC ps b - bC ps a) * (x - a):=by
 have key:∃(i:Nat)(p q:Pt),ps[i]?=some p/\ps[i+1]?=some q/\p.1<=a/\b<=q.1:=by
  rcases rR h.2 he (fun p hp=>by rw[h.1] at hp;cases hp;exact h0) (show a<=e.1 by grind) with⟨i,p,ip,ep⟩ | ⟨i,p,q,ip,iq,lp,lq⟩
  ·have hi:=(Qx.mp ip).1
   have hl:i+1 < ps.length:=by
    rcases XS (i+1) ps.length with l | l
    ·exact l
    ·rw[Vk,show ps.length - 1=i by omega,ip] at he
     cases he;grind
   have iq:ps[i+1]?=some ps[i+1]:=Qn hl;have:=(iG h.2 (QT i) ip iq).1
   exact⟨i,p,ps[i+1],ip,iq,by grind,hno _ (Qi iq) (by grind)⟩
  ·exact⟨i,p,q,ip,iq,Qf lp,hno _ (Qi iq) lq⟩
 obtain⟨i,p,q,ip,iq,l1,l2⟩:=key;rw[bX h.2 ip iq l1 (by grind),bX h.2 ip iq (show p.1<=x by grind) (by grind),bX h.2 ip iq (show p.1<=b by grind) l2];rw[gT,gT,gT];grind
def rN(ps qs:List Pt)(C:List Rat):List Pt:=C.map fun t=>(t,bC ps (bC qs t))
structure Joints (ps qs:List Pt) (f:Pt) (C:List Rat):Prop where
 asc:C.Pairwise (· < ·)
 own:∀ q∈qs,q.1∈C
 hit:∀ p∈ps,∃ t∈C,bC qs t=p.1
 bd:∀ t∈C,0<=t/\t<=f.1
theorem zEZ{ps qs:List Pt}{e f:Pt}{C:List Rat}(hp:Ok ps)(hq:Ok qs)(he:ps.getLast?=some e)(hf:qs.getLast?=some f)(hL:e.1=f.2)(J:Joints ps qs f C):
  Ok (rN ps qs C)/\(rN ps qs C).getLast?=some (f.1,e.2):=by
 have z0:(0:Rat)∈C:=J.own (0,0) (List.mem_of_mem_head? (by rw[hq.1];rfl))
 have zL:f.1∈C:=J.own f (XT hf);have v0:∀ {ls:List Pt},Ok ls->bC ls 0=0:=fun {ls} h=>bP h.2 (i:=0) (p:=(0,0)) (by rw[<-Vs];exact h.1)
 have vL:∀ {ls:List Pt} {u:Pt},Ok ls->ls.getLast?=some u->bC ls u.1=u.2:=fun {ls u} h hu=>bP h.2 (i:=ls.length - 1) (by rw[<-Vk];exact hu)
 refine⟨⟨?_,?_⟩,?_⟩
 ·unfold rN
  rw[Xf,zIh J.asc z0 fun x hx=>(J.bd x hx).1];show some (0,bC ps (bC qs 0))=_
  rw[v0 hq,v0 hp]
 ·unfold rN
  refine VB.mpr (VX ?_ J.asc)
  intro a b ha hb hab;have b1:=pF hq hf (J.bd a ha).1 (J.bd a ha).2;have b2:=pF hq hf (J.bd b hb).1 (J.bd b hb).2;exact⟨hab,dI hp he b1.1 (dI hq hf (J.bd a ha).1 (Qf hab) (J.bd b hb).2) (by rw[hL];exact b2.2)⟩
 ·unfold rN
  rw[VC]
  cases hc:C.getLast? with
  | none=>rw[List.getLast?_eq_none_iff] at hc;rw[hc] at z0;cases z0
  | some u=>
   have:u=f.1:=zLR J.asc hc zL fun x hx=>(J.bd x hx).2
   subst this;show some (f.1,bC ps (bC qs f.1))=_
   rw[vL hq hf,<-hL,vL hp he]
theorem zIL{ps qs:List Pt}{e f:Pt}{C:List Rat}(hp:Ok ps)(hq:Ok qs)(he:ps.getLast?=some e)(hf:qs.getLast?=some f)(hL:e.1=f.2)(J:Joints ps qs f C){x:Rat}(h0:0<=x)(h1:x<=f.1):
  bC (rN ps qs C) x=bC ps (bC qs x):=by
 obtain⟨ok,la⟩:=zEZ hp hq he hf hL J
 have at':∀ {i:Nat} {u:Pt},(rN ps qs C)[i]?=some u->C[i]?=some u.1/\u.2=bC ps (bC qs u.1):=by
  intro i u hu;unfold rN at hu;rw[Qt] at hu
  cases hc:C[i]? with
  | none=>rw[hc] at hu;cases hu
  | some c=>rw[hc] at hu;cases hu;exact⟨rfl,rfl⟩
 rcases rR ok.2 la (fun p hp=>by rw[ok.1] at hp;cases hp;exact h0) h1 with⟨i,u,iu,eu⟩ | ⟨i,u,v,iu,iv,lu,lv⟩
 ·obtain⟨_,e2⟩:=at' iu
  rw[<-eu,bP ok.2 iu,e2]
 ·obtain⟨c1,e1⟩:=at' iu
  obtain⟨d1,e2⟩:=at' iv;rw[bX ok.2 iu iv (Qf lu) (Qf lv)];have hC:=J.asc
  have out:∀ t∈C,t<=u.1∨v.1<=t:=by
   intro t ht;obtain⟨j,hj⟩:=VW.mp ht
   have lt:∀ {i j:Nat} {a b:Rat},i < j->C[i]?=some a->C[j]?=some b->a < b:=by
    intro i j a b l ha hb;obtain⟨hi,rfl⟩:=Qx.mp ha;obtain⟨hj,rfl⟩:=Qx.mp hb;exact Xk.mp hC i j hi hj l
   rcases Xl j i with l | l | l
   ·exact .inl (Qf (lt l hj c1))
   ·subst l;rw[hj] at c1;cases c1;exact .inl Qd
   ·rcases Vr (show i+1<=j by omega) with l | l
    ·exact .inr (Qf (lt l d1 hj))
    ·subst l;rw[hj] at d1;cases d1;exact .inr Qd
  have bu:=J.bd u.1 (Qi c1);have bv:=J.bd v.1 (Qi d1);have luv:u.1 < v.1:=by grind
  have l2:=zGD hq hf bu.1 luv bv.2 (fun p hp l=>by
   rcases out p.1 (J.own p hp) with z | z
   ·grind
   ·exact z) (Qf lu) (Qf lv)
  have mA:=dI hq hf bu.1 (Qf lu) (show x<=f.1 by grind)
  have mB:=dI hq hf (show 0<=x by grind) (Qf lv) bv.2
  have nA:=pF hq hf bu.1 bu.2;have nB:=pF hq hf bv.1 bv.2;have n:v.1 - u.1≠0:=by grind
  have i1:=Vq _ n;unfold itp;rw[e1,e2,QI]
  have fin:(bC ps (bC qs x) - bC ps (bC qs u.1)) * (v.1 - u.1)=(bC ps (bC qs v.1) - bC ps (bC qs u.1)) * (x - u.1):=by
   by_cases c:bC qs u.1=bC qs v.1
   ·have:bC qs x=bC qs u.1:=by grind
    rw[this,<-c];grind
   ·have AB:bC qs u.1 < bC qs v.1:=by grind
    have l1:=zGD hp he nA.1 AB (by rw[hL];exact nB.2) (fun p hp' l=>by
     obtain⟨t,ht,et⟩:=J.hit p hp';have bt:=J.bd t ht;rcases out t ht with z | z
     ·have:=dI hq hf bt.1 z bu.2
      grind
     ·have:=dI hq hf bv.1 z bt.2
      grind) mA mB
    have nn:bC qs v.1 - bC qs u.1≠0:=by grind
    refine lG nn ?_
    grind
  generalize (v.1 - u.1)⁻¹=w at i1;refine lG n ?_
  grind
def zCw(ps:List Pt)(y r:Rat):Prop:=∃(k:Nat)(q:Pt),ps[k]?=some q/\(∀(j:Nat)(p:Pt),j < k->ps[j]?=some p->p.2 < y)/\
 ((q.2=y/\r=q.1)∨(0 < k/\y < q.2/\∃ p:Pt,ps[k - 1]?=some p/\p.2 < y/\r=itp (p.2,p.1) (q.2,q.1) y))
theorem zCw.val{ps:List Pt}{e:Pt}{y r:Rat}(h:Ok ps)(he:ps.getLast?=some e)(u:zCw ps y r):bC ps r=y/\0<=r/\r<=e.1:=by
 obtain⟨k,q,hq,hj,c⟩:=u;have bq:=cZ h he (Qi hq);rcases c with⟨c1,rfl⟩ | ⟨k0,l,p,hp,lp,rfl⟩
 ·exact⟨by rw[bP h.2 hq,c1],bq.1,bq.2.1⟩
 ·have bp:=cZ h he (Qi hp)
  have hq':ps[k - 1+1]?=some q:=by rw[show k - 1+1=k by omega];exact hq
  have pq:=iG h.2 (QT (k - 1)) hp hq';have sw:asc (p.2,p.1) (q.2,q.1):=⟨by show p.2 < q.2;grind,Qf pq.1⟩
  have b:=oM sw (x:=y) (Qf lp) (Qf l);have b1:p.1<=itp (p.2,p.1) (q.2,q.1) y:=b.1;have b2:itp (p.2,p.1) (q.2,q.1) y<=q.1:=b.2;refine⟨?_,by grind,by grind⟩
  rw[bX h.2 hp hq' b1 b2];have n1:q.1 - p.1≠0:=by have:=pq.1;grind
  have n2:q.2 - p.2≠0:=by grind
  have i1:=Vq _ n1;have i2:=Vq _ n2;unfold itp;dsimp only
  rw[QI,QI];generalize (q.1 - p.1)⁻¹=a at i1;generalize (q.2 - p.2)⁻¹=b at i2;grind
theorem zGn{p q:Pt}(h1:p.1 < q.1)(h2:p.2 < q.2){x y:Rat}(l:x < y):itp p q x < itp p q y:=by
 have n:0 < (q.1 - p.1)⁻¹:=XO.mpr (by grind)
 have s:0 < (q.2 - p.2) * (q.1 - p.1)⁻¹:=XN (by grind) n
 rw[gT,gT,QI];have:=Rat.mul_lt_mul_of_pos_right (show x - p.1 < y - p.1 by grind) s
 grind
theorem zCw.least{ps:List Pt}{e:Pt}{y r:Rat}(h:Ok ps)(he:ps.getLast?=some e)(u:zCw ps y r){t:Rat}(t0:0<=t)(l:t < r):bC ps t < y:=by
 have hv:=u.val h he;obtain⟨k,q,hq,hj,c⟩:=u;have h00:ps[0]?=some (0,0):=by rw[<-Vs];exact h.1
 have k0:0 < k:=by
  rcases XU k with z | z
  ·subst z
   rw[h00] at hq;cases hq;rcases c with⟨_,c⟩ | ⟨c,_⟩
   ·have:r=0:=c
    grind
   ·exact absurd c (by decide)
  ·exact z
 have hkl:=(Qx.mp hq).1;have hp:ps[k - 1]?=some ps[k - 1]:=Qn (by omega)
 have hq':ps[k - 1+1]?=some q:=by rw[show k - 1+1=k by omega];exact hq
 have lp:=hj _ _ (show k - 1 < k by omega) hp
 have pq:=iG h.2 (QT (k - 1)) hp hq';have vp:=bP h.2 hp;generalize ps[k - 1]=p at hp lp pq vp
 have yq:y<=q.2:=by
  rcases c with⟨c,_⟩ | ⟨_,c,_⟩
  ·rw[c];exact Qd
  ·exact Qf c
 have rq:r<=q.1:=by
  rcases c with⟨_,c⟩ | ⟨_,c1,p',hp',lp',c⟩
  ·rw[c];exact Qd
  ·rw[c]
   rw[hp] at hp';cases hp'
   have sw:asc (p.2,p.1) (q.2,q.1):=⟨by show p.2 < q.2;grind,Qf pq.1⟩
   exact(oM sw (x:=y) (Qf lp) yq).2
 by_cases c1:t<=p.1
 ·have bp:=cZ h he (Qi hp)
  have:=dI h he t0 c1 bp.2.1
  grind
 ·have e1:=bX h.2 hp hq' (x:=t) (by grind) (by grind)
  have e2:=bX h.2 hp hq' (x:=r) (by grind) rq
  have:=zGn pq.1 (show p.2 < q.2 by grind) l
  rw[e1];rw[e2] at hv;grind
theorem zCw.uniq{ps:List Pt}{e:Pt}{y r r':Rat}(h:Ok ps)(he:ps.getLast?=some e)(u:zCw ps y r)(v:bC ps r'=y)(r0:0<=r')(lt:∀ t,0<=t->t < r'->bC ps t < y):r=r':=by
 have hv:=u.val h he;by_cases l:r < r'
 ·have:=lt r hv.2.1 l
  grind
 ·by_cases l2:r' < r
  ·have:=u.least h he r0 l2
   grind
  ·grind
theorem zEt:∀ {ps:List Pt},zNE ps->∀ {i:Nat} {a b c:Pt},ps[i]?=some a->ps[i+1]?=some b->ps[i+2]?=some c->btw a b c=false
 | [],_,i,a,b,c,h,_,_=>by cases h
 | [x],_,i,a,b,c,_,h,_=>by cases h
 | [x,y],_,i,a,b,c,_,_,h=>by
  have:=(Qx.mp h).1
  simp at this
  omega
 | x::y::z::r,h,0,a,b,c,h1,h2,h3=>by
  cases h1;cases h2;cases h3;exact h.1
 | x::y::z::r,h,i+1,a,b,c,h1,h2,h3=>zEt (ps:=y::z::r) h.2 (i:=i) h1 h2 h3
end Ln
namespace L3
open PySem PySem.Spec PyProof.Rows L2
abbrev St:=L2.St
mutual
inductive IsD (K:PySem.W.Frag) (H:Hp):V->D->Prop where
 | non:IsD K H .non .non
 | bl (b:Bool):IsD K H (.bl b) (.bl b)
 | int (i:Int):IsD K H (.int i) (.int i)
 | str (x:Str):IsD K H (.str x) (.str x)
 | tup {a:Addr} {xs:List V} {ds:List D}:SqT K H a xs->IsDs K H xs ds->IsD K H (.ref a) (.tup ds)
 | lst {a:Addr} {xs:List V} {ds:List D}:SqL K H a xs->IsDs K H xs ds->IsD K H (.ref a) (.lst ds)
inductive IsDs (K:PySem.W.Frag) (H:Hp):List V->List D->Prop where
 | nil:IsDs K H [] []
 | cons {v:V} {d:D} {vs:List V} {ds:List D}:IsD K H v d->IsDs K H vs ds->IsDs K H (v::vs) (d::ds)
end
theorem _root_.L2.Same.rd{H H':Hp}(e:Same H H'){a:Addr}{u:HO}(h:Rd H a u):Rd H' a u:=by
 rcases h with h | ⟨o,h⟩
 ·exact .inl (e _ _ h)
 ·exact .inr ⟨o,e _ _ h⟩
theorem cQ{K:PySem.W.Frag}{H H':Hp}(e:Same H H'){a:Addr}{xs:List V}(h:SqT K H a xs):SqT K H' a xs:=h.imp (Same.rd e) id
theorem cY{K:PySem.W.Frag}{H H':Hp}(e:Same H H'){a:Addr}{xs:List V}(h:SqL K H a xs):SqL K H' a xs:=h.imp (Same.rd e) id
section
variable{K:PySem.W.Frag}{H H':Hp}
mutual
theorem IsD.mono(e:Same H H'):∀ {v:V} {d:D},IsD K H v d->IsD K H' v d
 | _,_,.non=>.non
 | _,_,.bl b=>.bl b
 | _,_,.int i=>.int i
 | _,_,.str x=>.str x
 | _,_,.tup h hs=>.tup (cQ e h) (IsDs.mono e hs)
 | _,_,.lst h hs=>.lst (cY e h) (IsDs.mono e hs)
theorem IsDs.mono(e:Same H H'):∀ {vs:List V} {ds:List D},IsDs K H vs ds->IsDs K H' vs ds
 | _,_,.nil=>.nil
 | _,_,.cons h hs=>.cons (IsD.mono e h) (IsDs.mono e hs)
end
theorem IsDs.length:∀ {vs:List V} {ds:List D},IsDs K H vs ds->vs.length=ds.length
 | _,_,.nil=>rfl
 | _,_,.cons _ hs=>by rw[Qm,Qm,IsDs.length hs]
theorem IsDs.at:∀ {vs:List V} {ds:List D} {j:Nat} {d:D},IsDs K H vs ds->ds[j]?=some d->∃ v,vs[j]?=some v/\IsD K H v d
 | _,_,_,_,.nil,e=>by simp at e
 | _,_,0,_,.cons r _,e=>by simp at e;subst e;exact⟨_,rfl,r⟩
 | _,_,j+1,d,.cons _ t,e=>by
  obtain⟨v,h1,h2⟩:=IsDs.at (j:=j) (d:=d) t (by simpa using e)
  exact⟨v,by simpa using h1,h2⟩
theorem IsDs.append:∀ {vs ws:List V} {ds es:List D},IsDs K H vs ds->IsDs K H ws es->IsDs K H (vs++ws) (ds++es)
 | _,_,_,_,.nil,s=>s
 | _,_,_,_,.cons r t,s=>.cons r (IsDs.append t s)
theorem IsDs.take:∀ {vs:List V} {ds:List D} (n:Nat),IsDs K H vs ds->IsDs K H (vs.take n) (ds.take n)
 | _,_,0,_=>.nil
 | _,_,_+1,.nil=>.nil
 | _,_,n+1,.cons r t=>.cons r (IsDs.take n t)
theorem IsDs.drop:∀ {vs:List V} {ds:List D} (n:Nat),IsDs K H vs ds->IsDs K H (vs.drop n) (ds.drop n)
 | _,_,0,r=>r
 | _,_,_+1,.nil=>.nil
 | _,_,n+1,.cons _ t=>IsDs.drop n t
theorem IsDs.dropLast:∀ {vs:List V} {ds:List D},IsDs K H vs ds->IsDs K H vs.dropLast ds.dropLast
 | _,_,.nil=>.nil
 | _,_,.cons _ .nil=>.nil
 | _,_,.cons r (.cons q t)=>.cons r (IsDs.dropLast (.cons q t))
theorem IsDs.set{v:V}{d:D}(h:IsD K H v d):∀ {vs:List V} {ds:List D} (j:Nat),IsDs K H vs ds->IsDs K H (vs.set j v) (ds.set j d)
 | _,_,_,.nil=>.nil
 | _,_,0,.cons _ t=>.cons h t
 | _,_,j+1,.cons q t=>.cons q (IsDs.set h j t)
mutual
theorem IsD.noL(k:∀ b xs,Rd H b (.tup xs)->Rd H' b (.tup xs)):∀ {v:V} {d:D},IsD K H v d->L3.noL d=true->IsD K H' v d
 | _,_,.non,_=>.non
 | _,_,.bl b,_=>.bl b
 | _,_,.int i,_=>.int i
 | _,_,.str x,_=>.str x
 | _,_,.tup h hs,e=>.tup (h.imp (k _ _) id) (IsDs.noL k hs (by rw[L3.noL] at e;exact e))
 | _,_,.lst h hs,e=>by rw[L3.noL] at e;cases e
theorem IsDs.noL(k:∀ b xs,Rd H b (.tup xs)->Rd H' b (.tup xs)):∀ {vs:List V} {ds:List D},IsDs K H vs ds->L3.noLs ds=true->IsDs K H' vs ds
 | _,_,.nil,_=>.nil
 | _,_,.cons h hs,e=>by
  rw[L3.noLs,Va] at e;exact .cons (IsD.noL k h e.1) (IsDs.noL k hs e.2)
end
end
theorem IsD.intI{K:PySem.W.Frag}{H:Hp}{v:V}{i:Int}(h:IsD K H v (.int i)):v=.int i:=by cases h;rfl
theorem IsD.blI{K:PySem.W.Frag}{H:Hp}{v:V}{b:Bool}(h:IsD K H v (.bl b)):v=.bl b:=by cases h;rfl
theorem IsD.strI{K:PySem.W.Frag}{H:Hp}{v:V}{x:Str}(h:IsD K H v (.str x)):v=.str x:=by cases h;rfl
theorem IsD.tupI{K:PySem.W.Frag}{H:Hp}{v:V}{ds:List D}(h:IsD K H v (.tup ds)):∃ a xs,v=.ref a/\SqT K H a xs/\IsDs K H xs ds:=by
 cases h with
 | tup h hs=>exact⟨_,_,rfl,h,hs⟩
theorem IsD.lstI{K:PySem.W.Frag}{H:Hp}{v:V}{ds:List D}(h:IsD K H v (.lst ds)):∃ a xs,v=.ref a/\SqL K H a xs/\IsDs K H xs ds:=by
 cases h with
 | lst h hs=>exact⟨_,_,rfl,h,hs⟩
def sN:Str := "ranked.<locals>.<lambda>"
def zBF(P:Addr)(H:Hp):Prop:=∃ ps,H P=some (.tbl ps)/\TriplesOk ps.toList/\∀(pos:Pos)(cv:Value),codeAmong pos ps.toList=some cv->∃ c oc vs t u,cv=.ref c/\H c=some (.frz oc u)/\oc.data=.fields vs/\vs[1]?=some (.str sN t)
theorem zBF.put{P a:Addr}{H:Hp}{x:HO}(h:zBF P H)(h1:∀ ps,H a≠some (.tbl ps))(h2:∀ o u,H a≠some (.frz o u)):zBF P (upd H a x):=by
 obtain⟨ps,e,t,k⟩:=h;refine⟨ps,by rw[bA (show P≠a from fun z=>h1 ps (by rw[<-z];exact e))];exact e,t,fun pos cv q=>?_⟩
 obtain⟨c,oc,vs,tk,u,r1,r2,r3⟩:=k pos cv q;exact⟨c,oc,vs,tk,u,r1,by rw[bA (show c≠a from fun z=>h2 oc u (by rw[<-z];exact r2))];exact r2,r3⟩
structure Keep (H H':Hp):Prop where
 k:∀ b o,H b=some o->H' b=some o∨∃ ps ps',o=.tbl ps/\H' b=some (.tbl ps')
 t:∀ P,zBF P H->zBF P H'
theorem Keep.refl(H:Hp):Keep H H:=⟨fun _ _ e=>.inl e,fun _ e=>e⟩
theorem Keep.trans{H H1 H2:Hp}(a:Keep H H1)(b:Keep H1 H2):Keep H H2:=
 ⟨fun c o e=>by
  rcases a.k c o e with z | ⟨ps,ps',rfl,z⟩
  ·exact b.k c o z
  ·rcases b.k c _ z with y | ⟨qs,qs',_,y⟩
   ·exact .inr ⟨ps,ps',rfl,y⟩
   ·exact .inr ⟨ps,qs',rfl,y⟩,fun P e=>b.t P (a.t P e)⟩
theorem Keep.at{H H':Hp}(k:Keep H H'){b:Addr}{o:HO}(e:H b=some o)(ho:∀ ps,o≠.tbl ps:=by intro ps z;cases z):H' b=some o:=by
 rcases k.k b o e with z | ⟨ps,ps',z,_⟩
 ·exact z
 ·exact absurd z (ho ps)
theorem Keep.none{H H':Hp}(k:Keep H H'){p:Addr}(e:H' p=none):H p=none:=by
 cases z:H p with
 | none=>rfl
 | some o=>rcases k.k p o z with y | ⟨_,_,_,y⟩<;>(rw[y] at e;cases e)
structure Ext (Hi H Hi' H':Hp):Prop where
 i:Same Hi Hi'
 h:Keep H H'
 s:Same Hi' H'
 n:∀ b,Hi b=none->Hi' b≠none->H b=none
theorem Ext.refl{Hi H:Hp}(h:Same Hi H):Ext Hi H Hi H:=⟨Same.refl _,Keep.refl _,h,fun _ e q=>absurd e q⟩
theorem Ext.trans{Hi H Hi1 H1 Hi2 H2:Hp}(a:Ext Hi H Hi1 H1)(b:Ext Hi1 H1 Hi2 H2):Ext Hi H Hi2 H2:=
 ⟨a.i.trans b.i,a.h.trans b.h,b.s,fun c e q=>by
  cases z:Hi1 c with
  | some o=>exact a.n c e (by rw[z];exact fun w=>by cases w)
  | none=>
   have z2:=b.n c z q
   exact a.h.none z2⟩
theorem dB{H:Hp}{p:Addr}(h:H p=none)(o:HO):Same H (upd H p o):=fun b u q=>by rw[bA (bE q h)];exact q
theorem zEb{H:Hp}{p:Addr}(h:H p=none)(o:HO):Keep H (upd H p o):=⟨fun b u q=>.inl (dB h o b u q),fun P e=>e.put (fun ps z=>by rw[h] at z;cases z) (fun ob u z=>by rw[h] at z;cases z)⟩
theorem _root_.L2.Same.none{H H':Hp}(h:Same H H'){p:Addr}(e:H' p=none):H p=none:=by
 cases z:H p with
 | none=>rfl
 | some o=>rw[h _ _ z] at e;cases e
theorem Ext.new{Hi H:Hp}{p:Addr}{o:HO}(h:Same Hi H)(hp:H p=none):Ext Hi H (upd Hi p o) (upd H p o) where
 i:=dB (h.none hp) o
 h:=zEb hp o
 s:=fun b u q=>by
  by_cases e:b=p
  ·subst e;rw[bB] at q ⊢;exact q
  ·rw[bA e] at q ⊢;exact h _ _ q
 n:=fun b e q=>by
  by_cases z:b=p
  ·rw[z];exact hp
  ·rw[bA z] at q;exact absurd e q
theorem Ext.newF{Hi H:Hp}{p:Addr}{o:HO}(h:Same Hi H)(hp:H p=none):Ext Hi H Hi (upd H p o) where
 i:=Same.refl _
 h:=zEb hp o
 s:=h.trans (dB hp o)
 n:=fun b e q=>absurd e q
theorem Ext.out{Hi H Hi' H':Hp}(e:Ext Hi H Hi' H'){a:Addr}{o:HO}(h:H a=some o)(hi:Hi a=none)(ho:∀ ps,o≠.tbl ps:=by intro ps z;cases z):H' a=some o/\Hi' a=none:=by
 refine⟨e.h.at h ho,?_⟩
 cases z:Hi' a with
 | none=>rfl
 | some u=>have:=e.n a hi (by rw[z];exact fun w=>by cases w);rw[h] at this;cases this
theorem Ext.hold{Hi H Hi' H':Hp}(e:Ext Hi H Hi' H'){a:Addr}{o:HO}(hn:H a=none)(h:H' a=some o)(hi:Hi' a=none):Ext Hi H (upd Hi' a o) H' where
 i:=e.i.trans (dB hi o)
 h:=e.h
 s:=fun b u q=>by
  by_cases z:b=a
  ·subst z;rw[bB] at q;cases q;exact h
  ·rw[bA z] at q;exact e.s _ _ q
 n:=fun b z q=>by
  by_cases w:b=a
  ·rw[w];exact hn
  ·rw[bA w] at q;exact e.n b z q
def zQB(a C:Addr):Heap->Prop:=fun h=>∃ o vs,h.get? a=some o/\o.cls=.ref C/\o.data=.fields vs
def kvT(T:List (Str×Str)):List (Key×V):=T.map fun q=>(Sum.inr q.1,V.str q.2)
def zEF(K:PySem.W.Frag)(mg:Str->Option Value)(B Hi H:Hp)(o:Option (Option V)):Sl->Prop
 | .un=>True
 | .val d=>∃ v,o=some (some v)/\IsD K Hi v d
 | .own ds=>∃ a xs,o=some (some (.ref a))/\H a=some (.lst xs)/\Hi a=none/\B a=none/\IsDs K Hi xs ds
 | .exc c=>∃ a C,o=some (some (.ref a))/\H a=some (.ext (zQB a C))/\Hi a=none/\B a=none/\mg c=some (.ref C)
 | .tab T=>∃ a,o=some (some (.ref a))/\Hi a=some (.dK (kvT T))
structure Rel (K:PySem.W.Frag) (mg:Str->Option Value) (B Bi Hi H:Hp) (σ:St) (ρ:Rho):Prop where
 len:σ.length=ρ.length
 ext:Ext Bi B Hi H
 slot:∀(i:Nat)(s:Sl),ρ[i]?=some s->zEF K mg B Hi H σ[i]? s
 dist:∀(i j:Nat)(a:Addr)(ds es:List D),ρ[i]?=some (.own ds)->ρ[j]?=some (.own es)->σ[i]?=some (some (.ref a))->σ[j]?=some (some (.ref a))->i=j
section
variable{K:PySem.W.Frag}{mg:Str->Option Value}{B Bi Hi H Hi' H':Hp}{σ:St}{ρ:Rho}
theorem zEF.ext{o:Option (Option V)}{s:Sl}(h:zEF K mg B Hi H o s)(e:Ext Hi H Hi' H'):zEF K mg B Hi' H' o s:=by
 cases s with
 | un=>trivial
 | val d=>obtain⟨v,q,r⟩:=h;exact⟨v,q,r.mono e.i⟩
 | own ds=>
  obtain⟨a,xs,q,h1,h2,h3,h4⟩:=h;obtain⟨e1,e2⟩:=e.out h1 h2;exact⟨a,xs,q,e1,e2,h3,h4.mono e.i⟩
 | exc c=>
  obtain⟨a,C,q,h1,h2,h3,h4⟩:=h;obtain⟨e1,e2⟩:=e.out h1 h2;exact⟨a,C,q,e1,e2,h3,h4⟩
 | tab T=>obtain⟨a,q,h1⟩:=h;exact⟨a,q,e.i _ _ h1⟩
theorem Rel.grow(R:Rel K mg B Bi Hi H σ ρ)(e:Ext Hi H Hi' H'):Rel K mg B Bi Hi' H' σ ρ:=⟨R.len,R.ext.trans e,fun i s q=>(R.slot i s q).ext e,R.dist⟩
theorem Rel.s(R:Rel K mg B Bi Hi H σ ρ):Same Hi H:=R.ext.s
theorem Rel.set{i:Nat}{v:V}{d:D}(R:Rel K mg B Bi Hi H σ ρ)(h:IsD K Hi v d):Rel K mg B Bi Hi H (σ.set i (some v)) (ρ.set i (.val d)) where
 len:=by rw[QH,QH];exact R.len
 ext:=R.ext
 slot:=fun j s q=>by
  by_cases e:i=j
  ·subst e
   by_cases hl:i < ρ.length
   ·rw[QR hl] at q;cases q
    exact⟨v,by rw[QR (by rw[R.len];exact hl)],h⟩
   ·rw[QC (by rw[QH];omega)] at q;cases q
  ·rw[QL e] at q ⊢
   exact R.slot j s q
 dist:=fun j k a ds es q1 q2 q3 q4=>by
  have h1:∀ {j:Nat} {ds:List D},(ρ.set i (.val d))[j]?=some (.own ds)->i≠j:=fun {j ds} q e=>by
   subst e;by_cases hl:i < ρ.length
   ·rw[QR hl] at q;cases q
   ·rw[QC (by rw[QH];omega)] at q;cases q
  have n1:=h1 q1;have n2:=h1 q2;rw[QL n1] at q1 q3;rw[QL n2] at q2 q4;exact R.dist j k a ds es q1 q2 q3 q4
theorem Rel.setOwn{i:Nat}{a:Addr}{xs:List V}{ds:List D}(R:Rel K mg B Bi Hi H σ ρ)(e:Ext Hi H Hi' H')(hn:H a=none)(h:H' a=some (.lst xs))(hi:Hi' a=none)(hs:IsDs K Hi' xs ds):
  Rel K mg B Bi Hi' H' (σ.set i (some (.ref a))) (ρ.set i (.own ds)) where
 len:=by rw[QH,QH];exact R.len
 ext:=R.ext.trans e
 slot:=fun j s q=>by
  by_cases z:i=j
  ·subst z
   by_cases hl:i < ρ.length
   ·rw[QR hl] at q;cases q
    exact⟨a,xs,by rw[QR (by rw[R.len];exact hl)],h,hi,R.ext.h.none hn,hs⟩
   ·rw[QC (by rw[QH];omega)] at q;cases q
  ·rw[QL z] at q ⊢
   exact(R.slot j s q).ext e
 dist:=fun j k b es fs q1 q2 q3 q4=>by
  have h1:∀ {j:Nat} {es:List D},i≠j->ρ[j]?=some (.own es)->σ[j]?=some (some (.ref a))->False:=fun {j es} _ p1 p2=>by
   obtain⟨a',xs',q,h1,_⟩:=R.slot j _ p1;rw[p2] at q;cases q;rw[hn] at h1;cases h1
  have h2:∀ {j:Nat} {es:List D},(ρ.set i (.own ds))[j]?=some (.own es)->i < σ.length∨i≠j:=fun {j es} p=>by
   by_cases z:i=j
   ·subst z
    by_cases hl:i < ρ.length
    ·exact .inl (by rw[R.len];exact hl)
    ·rw[QC (by rw[QH];omega)] at p;cases p
   ·exact .inr z
  by_cases z1:i=j
  ·by_cases z2:i=k
   ·rw[<-z1,<-z2]
   ·exfalso
    subst z1;have hl:i < σ.length:=(h2 q1).resolve_right (fun w=>w rfl)
    rw[QR hl] at q3;cases q3
    rw[QL z2] at q2 q4;exact h1 z2 q2 q4
  ·by_cases z2:i=k
   ·exfalso
    subst z2;have hl:i < σ.length:=(h2 q2).resolve_right (fun w=>w rfl)
    rw[QR hl] at q4;cases q4
    rw[QL z1] at q1 q3;exact h1 z1 q1 q3
   ·rw[QL z1] at q1 q3
    rw[QL z2] at q2 q4;exact R.dist j k b es fs q1 q2 q3 q4
theorem Rel.write{i:Nat}{a:Addr}{ys:List V}{ds es:List D}(R:Rel K mg B Bi Hi H σ ρ)(e:ρ[i]?=some (.own ds))(ea:σ[i]?=some (some (.ref a)))(hs:IsDs K Hi ys es):
  Rel K mg B Bi Hi (upd H a (.lst ys)) σ (ρ.set i (.own es)):=by
 obtain⟨a',xs',q,h1,h2,h3,h4⟩:=R.slot i _ e;rw[ea] at q;cases q
 have hl:i < ρ.length:=by
  by_cases hl:i < ρ.length
  ·exact hl
  ·rw[QC (by omega)] at e;cases e
 refine⟨by rw[QH];exact R.len,⟨R.ext.i,⟨fun b o z=>?_,fun P z=>(R.ext.h.t P z).put (fun ps y=>by rw[h1] at y;cases y) (fun ob u y=>by rw[h1] at y;cases y)⟩,fun b o z=>?_,R.ext.n⟩,fun j s z=>?_,fun j k b fs gs q1 q2 q3 q4=>?_⟩
 ·rw[bA (bE z h3)];exact R.ext.h.k _ _ z
 ·rw[bA (bE z h2)];exact R.ext.s _ _ z
 ·by_cases w:i=j
  ·subst w
   rw[QR hl] at z;cases z
   exact⟨a,ys,ea,bB,h2,h3,hs⟩
  ·rw[QL w] at z
   have S:=R.slot j s z
   cases s with
   | un=>trivial
   | val d=>exact S
   | own fs=>
    obtain⟨b,zs,p,g1,g2,g3,g4⟩:=S;have hb:b≠a:=fun c=>w (R.dist i j a ds fs e z ea (by rw[p,c]))
    exact⟨b,zs,p,by rw[bA hb];exact g1,g2,g3,g4⟩
   | exc c=>
    obtain⟨b,C,p,g1,g2,g3,g4⟩:=S;have hb:b≠a:=zPI g1 h1 (by intro z;cases z)
    exact⟨b,C,p,by rw[bA hb];exact g1,g2,g3,g4⟩
   | tab T=>exact S
 ·have own:∀ {j:Nat} {fs:List D},(ρ.set i (.own es))[j]?=some (.own fs)->∃ gs,ρ[j]?=some (.own gs):=fun {j fs} p=>by
   by_cases w:i=j
   ·subst w;exact⟨ds,e⟩
   ·rw[QL w] at p;exact⟨fs,p⟩
  obtain⟨fs',q1'⟩:=own q1;obtain⟨gs',q2'⟩:=own q2;exact R.dist j k b fs' gs' q1' q2' q3 q4
theorem Rel.frzAt{i:Nat}(R:Rel K mg B Bi Hi H σ ρ):∃ Hi',Same Hi Hi'/\Rel K mg B Bi Hi' H σ (L3.frzAt i ρ):=by
 unfold L3.frzAt;split
 ·rename_i ds e
  obtain⟨a,xs,q,h1,h2,h3,h4⟩:=R.slot i _ e
  have hl:i < ρ.length:=by
   by_cases hl:i < ρ.length
   ·exact hl
   ·rw[QC (by omega)] at e;cases e
  have sm:Same Hi (upd Hi a (.lst xs)):=dB h2 _
  have ss:Same (upd Hi a (.lst xs)) H:=fun b u z=>by
   by_cases w:b=a
   ·subst w;rw[bB] at z;cases z;exact h1
   ·rw[bA w] at z;exact R.s _ _ z
  refine⟨upd Hi a (.lst xs),sm,by rw[QH];exact R.len,⟨R.ext.i.trans sm,R.ext.h,ss,fun b z w=>?_⟩,fun j s z=>?_,fun j k b fs gs q1 q2 q3 q4=>?_⟩
  ·by_cases c:b=a
   ·rw[c];exact h3
   ·rw[bA c] at w;exact R.ext.n b z w
  ·by_cases w:i=j
   ·subst w
    rw[QR hl] at z;cases z
    exact⟨.ref a,q,.lst (SqL.of bB) (h4.mono sm)⟩
   ·rw[QL w] at z
    have S:=R.slot j s z
    cases s with
    | un=>trivial
    | val d=>obtain⟨v,p,r⟩:=S;exact⟨v,p,r.mono sm⟩
    | own fs=>
     obtain⟨b,zs,p,g1,g2,g3,g4⟩:=S;have hb:b≠a:=fun c=>w (R.dist i j a ds fs e z q (by rw[p,c]))
     exact⟨b,zs,p,g1,by rw[bA hb];exact g2,g3,g4.mono sm⟩
    | exc c=>
     obtain⟨b,C,p,g1,g2,g3,g4⟩:=S;have hb:b≠a:=zPI g1 h1 (by intro z;cases z)
     exact⟨b,C,p,g1,by rw[bA hb];exact g2,g3,g4⟩
    | tab T=>obtain⟨b,p,g1⟩:=S;exact⟨b,p,sm _ _ g1⟩
  ·have own:∀ {j:Nat} {fs:List D},(ρ.set i (.val (.lst ds)))[j]?=some (.own fs)->ρ[j]?=some (.own fs):=fun {j fs} p=>by
    by_cases w:i=j
    ·subst w;rw[QR hl] at p;cases p
    ·rw[QL w] at p;exact p
   exact R.dist j k b fs gs (own q1) (own q2) q3 q4
 ·exact⟨Hi,Same.refl _,R⟩
end
end L3
namespace L3
open PySem PySem.Spec PyProof.Rows L2
section
variable{K:PySem.W.Frag}{mg:Str->Option Value}{B Bi Hi H Hi' H':Hp}{σ:St}{ρ:Rho}
theorem Rel.frz(R:Rel K mg B Bi Hi H σ ρ):∃ Hf,Same Hi Hf/\Rel K mg B Bi Hf H σ (ρ.map Sl.frz)/\∀ b,Hi b=none->Hf b≠none->∃ xs,Hf b=some (.lst xs):=by
 let own:Addr->Prop:=fun b=>∃(i:Nat)(ds:List D),ρ[i]?=some (.own ds)/\σ[i]?=some (some (.ref b))
 have dec:∀ b,Decidable (own b):=fun b=>Classical.propDecidable _
 let Hf:Hp:=fun b=>match Hi b with
  | some o=>some o
  | none=>if own b then H b else none
 have hf1:∀ b o,Hi b=some o->Hf b=some o:=fun b o e=>by show(match Hi b with | some o=>some o | none=>if own b then H b else none)=_;rw[e]
 have hf2:∀ b,Hi b=none->own b->Hf b=H b:=fun b e z=>by show(match Hi b with | some o=>some o | none=>if own b then H b else none)=_;rw[e];exact if_pos z
 have hf3:∀ b,Hi b=none->¬ own b->Hf b=none:=fun b e z=>by show(match Hi b with | some o=>some o | none=>if own b then H b else none)=_;rw[e];exact if_neg z
 have lst:∀ b,own b->∃ xs,H b=some (.lst xs)/\Hi b=none/\B b=none:=fun b ⟨i,ds,e1,e2⟩=>by
  obtain⟨a,xs,q,h1,h2,h3,h4⟩:=R.slot i _ e1;rw[e2] at q;cases q
  exact⟨xs,h1,h2,h3⟩
 have ss:Same Hf H:=fun b o z=>by
  cases q:Hi b with
  | some u=>rw[hf1 b u q] at z;cases z;exact R.s _ _ q
  | none=>
   by_cases w:own b
   ·rw[hf2 b q w] at z;exact z
   ·rw[hf3 b q w] at z;cases z
 refine⟨Hf,hf1,⟨by rw[Qg];exact R.len,⟨R.ext.i.trans hf1,R.ext.h,ss,fun b z w=>?_⟩,fun j s z=>?_,fun j k b fs gs q1 q2 q3 q4=>?_⟩,fun b z w=>?_⟩
 ·cases q:Hi b with
  | some u=>exact R.ext.n b z (by rw[q];exact fun c=>by cases c)
  | none=>
   by_cases c:own b
   ·exact(lst b c).choose_spec.2.2
   ·exact absurd (hf3 b q c) w
 ·rw[Qt] at z
  cases e:ρ[j]? with
  | none=>rw[e] at z;cases z
  | some t=>
   rw[e] at z;cases z;have S:=R.slot j t e
   cases t with
   | un=>trivial
   | val d=>obtain⟨v,p,r⟩:=S;exact⟨v,p,r.mono hf1⟩
   | own ds=>
    obtain⟨a,xs,q,h1,h2,h3,h4⟩:=S;exact⟨.ref a,q,.lst (SqL.of (by rw[hf2 a h2 ⟨j,ds,e,q⟩];exact h1)) (h4.mono hf1)⟩
   | exc c=>
    obtain⟨a,C,q,h1,h2,h3,h4⟩:=S;refine⟨a,C,q,h1,?_,h3,h4⟩
    refine hf3 a h2 fun c=>?_
    obtain⟨xs,g,_⟩:=lst a c;rw[h1] at g;cases g
   | tab T=>obtain⟨a,q,h1⟩:=S;exact⟨a,q,hf1 _ _ h1⟩
 ·exfalso
  rw[Qt] at q1
  cases e:ρ[j]? with
  | none=>rw[e] at q1;cases q1
  | some t=>rw[e] at q1;cases t<;>cases q1
 ·by_cases c:own b
  ·obtain⟨xs,g,_⟩:=lst b c
   exact⟨xs,by rw[hf2 b z c];exact g⟩
  ·exact absurd (hf3 b z c) w
theorem Ext.thaw{Hf:Hp}(s:Same Hi Hf)(fl:∀ b,Hi b=none->Hf b≠none->∃ xs,Hf b=some (.lst xs))(hs:Same Hf H)(e:Ext Hf H Hi' H'):
  ∃ Ht,Ext Hi H Ht H'/\(∀ b xs,Rd Hi' b (.tup xs)->Rd Ht b (.tup xs))/\Same Ht Hi'/\∀ b,Ht b=none->Hi' b=none∨∃ xs,H b=some (.lst xs):=by
 have dec:∀ b,Decidable (Hi b=none/\Hf b≠none):=fun b=>Classical.propDecidable _
 let Ht:Hp:=fun b=>if Hi b=none/\Hf b≠none then none else Hi' b
 have t1:∀ b,¬ (Hi b=none/\Hf b≠none)->Ht b=Hi' b:=fun b z=>if_neg z
 have t2:∀ b,(Hi b=none/\Hf b≠none)->Ht b=none:=fun b z=>if_pos z
 have tt:Same Ht Hi':=fun b o z=>by
  by_cases w:Hi b=none/\Hf b≠none
  ·rw[t2 b w] at z;cases z
  ·rw[t1 b w] at z;exact z
 refine⟨Ht,⟨fun b o z=>?_,e.h,tt.trans e.s,fun b z w=>?_⟩,fun b xs r=>?_,tt,fun b z=>?_⟩
 ·rw[t1 b (fun w=>by rw[z] at w;cases w.1)];exact e.i _ _ (s _ _ z)
 ·by_cases c:Hi b=none/\Hf b≠none
  ·exact absurd (t2 b c) w
  ·rw[t1 b c] at w
   have:Hf b=none:=by
    cases q:Hf b with
    | none=>rfl
    | some u=>exact absurd ⟨z,by rw[q];exact fun c=>by cases c⟩ c
   exact e.n b this w
 ·have nl:¬ (Hi b=none/\Hf b≠none):=fun w=>by
   obtain⟨ys,g⟩:=fl b w.1 w.2;have g':=e.i _ _ g;rcases r with r | ⟨o,r⟩<;>(rw[g'] at r;cases r)
  rcases r with r | ⟨o,r⟩
  ·exact .inl (by rw[t1 b nl];exact r)
  ·exact .inr ⟨o,by rw[t1 b nl];exact r⟩
 ·by_cases c:Hi b=none/\Hf b≠none
  ·obtain⟨ys,g⟩:=fl b c.1 c.2
   exact .inr ⟨ys,hs _ _ g⟩
  ·exact .inl (by rw[t1 b c] at z;exact z)
end
structure Gx where
 B:Hp
 Bi:Hp
 E:Str->Hp->Prop
abbrev lN(X:Cx)(G:Gx)(Hi H:Hp)(σ:St)(ρ:Rho):Prop:=Rel X.K X.mg G.B G.Bi Hi H σ ρ
def Out(G:Gx)(Hi H:Hp){α:Type}(r:Res α)(k:α->Hp->Hp->Prop):Prop:=match r with
 | .ok a=>∀ Hi' H',Ext Hi H Hi' H'->k a Hi' H'
 | .err c=>∀ Hi' H',Ext Hi H Hi' H'->G.E c H'
 | .no=>False
theorem Out.bind{G:Gx}{Hi H:Hp}{α β:Type}{r:Res α}{f:α->Res β}{k:β->Hp->Hp->Prop}(h:Out G Hi H (r.bind f) k):
  Out G Hi H r fun a Hi' H'=>Out G Hi' H' (f a) k:=by
 cases r with
 | no=>exact h
 | err c=>exact h
 | ok a=>
  intro Hi1 H1 e;have h':Out G Hi H (f a) k:=h;show Out G Hi1 H1 (f a) k
  cases q:f a with
  | no=>rw[q] at h';exact h'
  | err c=>rw[q] at h';exact fun Hi2 H2 e2=>h' _ _ (e.trans e2)
  | ok b=>rw[q] at h';exact fun Hi2 H2 e2=>h' _ _ (e.trans e2)
theorem Out.imp{G:Gx}{Hi H:Hp}{α:Type}{r:Res α}{k k':α->Hp->Hp->Prop}(h:Out G Hi H r k)(f:∀ a Hi' H',Ext Hi H Hi' H'->k a Hi' H'->k' a Hi' H'):Out G Hi H r k':=by
 cases r with
 | no=>exact h
 | err c=>exact h
 | ok a=>exact fun Hi1 H1 e=>f a Hi1 H1 e (h Hi1 H1 e)
theorem Out.here{G:Gx}{Hi H:Hp}{α:Type}{a:α}{k:α->Hp->Hp->Prop}(h:Out G Hi H (.ok a) k)(s:Same Hi H):k a Hi H:=h Hi H (Ext.refl s)
def tD(X:Cx)(G:Gx)(f:Ev):TE:=fun σ H Q=>∃ ρ Hi,lN X G Hi H σ ρ/\Out G Hi H (f ρ) fun d Hi' H'=>∀ v,IsD X.K Hi' v d->Q v H'
def zJJ(K:PySem.W.Frag)(H Hi' H':Hp)(a:Addr)(ds:List D):Prop:=H a=none/\Hi' a=none/\∃ xs,H' a=some (.lst xs)/\IsDs K Hi' xs ds
def tF(X:Cx)(G:Gx)(f:Fv):TE:=fun σ H Q=>∃ ρ Hi,lN X G Hi H σ ρ/\Out G Hi H (f ρ) fun ds Hi' H'=>∀ a,zJJ X.K H Hi' H' a ds->Q (.ref a) H'
def tTb(X:Cx)(G:Gx)(f:Tv):TT:=fun σ H Q=>∃ ρ Hi,lN X G Hi H σ ρ/\Out G Hi H (f ρ) fun b _ H'=>Q b H'
def tAs(X:Cx)(G:Gx)(f:Fv):TA:=fun σ H Q=>∃ ρ Hi,lN X G Hi H σ ρ/\Out G Hi H (f ρ) fun ds Hi' H'=>∀ vs,IsDs X.K Hi' vs ds->Q vs H'
def Fin(X:Cx)(G:Gx)(Hi:Hp)(E:zCx)(r:Res Fl):Prop:=match r with
 | .ok (.nx ρ')=>∀ σ' Hi' H',Same Hi Hi'->lN X G Hi' H' σ' ρ'->E.nx σ' H'
 | .ok (.brk ρ')=>∀ σ' Hi' H',Same Hi Hi'->lN X G Hi' H' σ' ρ'->E.bk σ' H'
 | .ok (.ctn ρ')=>∀ σ' Hi' H',Same Hi Hi'->lN X G Hi' H' σ' ρ'->E.ct σ' H'
 | .ok (.ret (.v d))=>∀ v Hi' H',Ext G.Bi G.B Hi' H'->IsD X.K Hi' v d->E.rt v H'
 | .ok (.ret (.f ds))=>∀ a Hi' H',Ext G.Bi G.B Hi' H'->zJJ X.K G.B Hi' H' a ds->E.rt (.ref a) H'
 | .err c=>∀ Hi' H',Ext G.Bi G.B Hi' H'->G.E c H'
 | .no=>False
theorem Fin.mono{X:Cx}{G:Gx}{Hi Hi':Hp}{E:zCx}{r:Res Fl}(h:Fin X G Hi E r)(s:Same Hi Hi'):Fin X G Hi' E r:=by
 cases r with
 | no=>exact h
 | err c=>exact h
 | ok f=>
  cases f with
  | nx ρ=>exact fun σ' Hi2 H2 s2=>h σ' Hi2 H2 (s.trans s2)
  | brk ρ=>exact fun σ' Hi2 H2 s2=>h σ' Hi2 H2 (s.trans s2)
  | ctn ρ=>exact fun σ' Hi2 H2 s2=>h σ' Hi2 H2 (s.trans s2)
  | ret r=>cases r<;>exact h
def tS(X:Cx)(G:Gx)(f:Sv):TS:=fun E σ H=>∃ ρ Hi,lN X G Hi H σ ρ/\Fin X G Hi E (f ρ)
@[irreducible] def PEd (X:Cx) (G:Gx) (e:Expr) (f:Ev):Prop:=PE X e (tD X G f)
unseal PEd
@[irreducible] def PEf (X:Cx) (G:Gx) (e:Expr) (f:Fv):Prop:=PE X e (tF X G f)
unseal PEf
@[irreducible] def PTd (X:Cx) (G:Gx) (e:Expr) (f:Tv):Prop:=PT X e (tTb X G f)
unseal PTd
@[irreducible] def PWd (X:Cx) (G:Gx) (e:Expr) (f:Tv):Prop:=PW X e (tTb X G f)
unseal PWd
@[irreducible] def PAd (X:Cx) (G:Gx) (es:List Expr) (f:Fv):Prop:=PA X es (tAs X G f)
unseal PAd
@[irreducible] def PSd (X:Cx) (G:Gx) (s:Stmt) (f:Sv):Prop:=PS X s (tS X G f)
unseal PSd
@[irreducible] def fO (X:Cx) (G:Gx) (s:List Stmt) (f:Sv):Prop:=PSs X s (tS X G f)
unseal fO
theorem PE.wk{X:Cx}{e:Expr}{t t':TE}(h:PE X e t)(w:∀ σ H Q,t' σ H Q->t σ H Q):PE X e t':=fun pins s σ H Q I q=>h pins s σ H Q I (w σ H Q q)
theorem PT.wk{X:Cx}{e:Expr}{t t':TT}(h:PT X e t)(w:∀ σ H Q,t' σ H Q->t σ H Q):PT X e t':=fun pins s σ H Q I q=>h pins s σ H Q I (w σ H Q q)
theorem PW.wk{X:Cx}{e:Expr}{t t':TT}(h:PW X e t)(w:∀ σ H Q,t' σ H Q->t σ H Q):PW X e t':=fun wh pins s σ H Q I q=>h wh pins s σ H Q I (w σ H Q q)
theorem PA.wk{X:Cx}{es:List Expr}{t t':TA}(h:PA X es t)(w:∀ σ H Q,t' σ H Q->t σ H Q):PA X es t':=fun pos pins s σ H Q I q=>h pos pins s σ H Q I (w σ H Q q)
theorem PS.wk{X:Cx}{s:Stmt}{t t':TS}(h:PS X s t)(w:∀ E σ H,t' E σ H->t E σ H):PS X s t':=fun pins s σ H E I q=>h pins s σ H E I (w E σ H q)
theorem PSs.wk{X:Cx}{s:List Stmt}{t t':TS}(h:PSs X s t)(w:∀ E σ H,t' E σ H->t E σ H):PSs X s t':=fun pins s σ H E I q=>h pins s σ H E I (w E σ H q)
section
variable{X:Cx}{G:Gx}{a b e:Expr}{es:List Expr}{pos:Pos}{f g:Ev}
theorem aB(i:Nat)(h:PE X e (zEc i)):PEd X G e (aH i):=PE.wk h fun σ H Q q=>by
 obtain⟨ρ,Hi,R,o⟩:=q;unfold aH at o
 cases z:ρ[i]? with
 | none=>rw[z] at o;exact o.elim
 | some s=>
  rw[z] at o
  cases s with
  | val d=>
   obtain⟨v,p,r⟩:=R.slot i _ z;exact⟨v,p,o.here R.s v r⟩
  | un=>exact o.elim
  | own ds=>exact o.elim
  | exc c=>exact o.elim
  | tab T=>exact o.elim
theorem aU{v:V}{d:D}(h:PE X e (tC v))(r:∀ H,IsD X.K H v d):PEd X G e (eC d):=PE.wk h fun σ H Q q=>by
 obtain⟨ρ,Hi,R,o⟩:=q;exact o.here R.s v (r Hi)
theorem zFb{Hi H:Hp}{σ:St}{ρ:Rho}{β:Type}{k:D->Res β}{k':β->Hp->Hp->Prop}{Q:VK}(R:lN X G Hi H σ ρ)(o:Out G Hi H ((f ρ).bind k) k')
  (w:∀ v d Hi' H',Ext Hi H Hi' H'->lN X G Hi' H' σ ρ->IsD X.K Hi' v d->Out G Hi' H' (k d) k'->Q v H'):tD X G f σ H Q:=
 ⟨ρ,Hi,R,o.bind.imp fun d Hi' H' e q v r=>w v d Hi' H' e (R.grow e) r q⟩
def OpK(X:Cx)(r:R2)(o:Op2):Prop:=(∀ a b c,o a b≠.err c)/\∀(Hi H:Hp)(x y:V)(a b d:D)(Q:VK),Same Hi H->IsD X.K Hi x a->IsD X.K Hi y b->o a b=.ok d->
 (∀ v Hi' H',Ext Hi H Hi' H'->IsD X.K Hi' v d->Q v H')->r x y H Q
theorem op2{r:R2}{o:Op2}(k:OpK X r o):∀ σ H Q,tD X G (eOp o f g) σ H Q->tOp r (tD X G f) (tD X G g) σ H Q:=fun σ H Q q=>by
 obtain⟨ρ,Hi,R,ou⟩:=q;refine zFb R ou fun v d Hi1 H1 e1 R1 r1 o1=>?_
 refine zFb R1 o1 fun w d' Hi2 H2 e2 R2 r2 o2=>?_
 cases z:o d d' with
 | no=>rw[z] at o2;exact o2.elim
 | err c=>exact absurd z (k.1 d d' c)
 | ok u=>
  rw[z] at o2;exact k.2 Hi2 H2 v w d d' u Q R2.s (r1.mono e2.i) r2 z fun x Hi3 H3 e3 r3=>o2 Hi3 H3 e3 x r3
theorem aY{op:Operator}{r:R2}{o:Op2}(ho:OpR X (binaryOp op) r)(k:OpK X r o)(ha:PEd X G a f)(hb:PEd X G b g):PEd X G (.BinOp a op b pos) (eOp o f g):=PE.wk (zIG ho ha hb) (op2 k)
theorem zBE{op:CmpOp}{r:R2}{o:Op2}(ho:OpR X (compareOp op) r)(k:OpK X r o)(ha:PEd X G a f)(hb:PEd X G b g)(hm:behindInMarks op b=false):PEd X G (.Compare a [op] [b] pos) (eOp o f g):=PE.wk (zMl ho ha hb hm) (op2 k)
theorem aS{r:R2}{o:Op2}(ho:IxR X r)(k:OpK X r o)(ha:PEd X G a f)(hb:PEd X G b g)(hs:zCH b):PEd X G (.Subscript a b pos) (eOp o f g):=PE.wk (zFf ho ha hb hs) (op2 k)
theorem tst{op:CmpOp}{r:R2}{o:Op2}(ho:OpR X (compareOp op) r)(k:OpK X r o)(ha:PEd X G a f)(hb:PEd X G b g)(hm:behindInMarks op b=false):PTd X G (.Compare a [op] [b] pos) (dY (eOp o f g)):=
 PT.wk (zGg ho ha hb hm) fun σ H Q q=>by
  obtain⟨ρ,Hi,R,ou⟩:=q;refine op2 k σ H _ ⟨ρ,Hi,R,ou.bind.imp fun d Hi' H' e o v r=>?_⟩
  cases d with
  | bl c=>rw[r.blI];exact⟨c,rfl,o.here e.s⟩
  | _=>exact o.elim
theorem zAK(h:PEd X G a f)(he:∀ whole,isTrue a X.env whole=(do let v <-whole;standAt a.pos;holding [v] (truthy v)):=by intro _;rfl):PTd X G a (dY f):=PT.wk (zPe h he) fun σ H Q q=>by
 obtain⟨ρ,Hi,R,ou⟩:=q;refine⟨ρ,Hi,R,ou.bind.imp fun d Hi' H' e o v r=>?_⟩
 cases d with
 | bl c=>rw[r.blI];exact⟨c,rfl,o.here e.s⟩
 | _=>exact o.elim
variable{t u:Tv}
theorem zPP{Hi H:Hp}{σ:St}{ρ:Rho}{β:Type}{k:Bool->Res β}{k':β->Hp->Hp->Prop}{Q:Bool->Hp->Prop}(R:lN X G Hi H σ ρ)(o:Out G Hi H ((t ρ).bind k) k')
  (w:∀ c Hi' H',Ext Hi H Hi' H'->lN X G Hi' H' σ ρ->Out G Hi' H' (k c) k'->Q c H'):tTb X G t σ H Q:=
 ⟨ρ,Hi,R,o.bind.imp fun d Hi' H' e q=>w d Hi' H' e (R.grow e) q⟩
theorem zRt(h:PTd X G a t):PTd X G (.UnaryOp .Not a pos) (zKs t):=PT.wk (zOi h) fun σ H Q q=>by
 obtain⟨ρ,Hi,R,ou⟩:=q;exact zPP R ou fun c Hi1 H1 e1 R1 o1=>o1.here R1.s
theorem xS(h:PTd X G a t):PWd X G (.BoolOp .And [a] pos) t:=zLP h
theorem zIs(h:PTd X G a t):PWd X G (.BoolOp .Or [a] pos) t:=zOm h
theorem zFF{rest:List Expr}(ha:PTd X G a t)(hb:PWd X G (.BoolOp .And (b::rest) pos) u):PWd X G (.BoolOp .And (a::b::rest) pos) (yF t u):=PW.wk (zNW ha hb) fun σ H Q q=>by
 obtain⟨ρ,Hi,R,ou⟩:=q;refine zPP R ou fun c Hi1 H1 e1 R1 o1=>?_
 cases c with
 | true=>exact⟨ρ,Hi1,R1,o1⟩
 | false=>exact o1.here R1.s
theorem zPa{rest:List Expr}(ha:PTd X G a t)(hb:PWd X G (.BoolOp .Or (b::rest) pos) u):PWd X G (.BoolOp .Or (a::b::rest) pos) (zKS t u):=PW.wk (zQl ha hb) fun σ H Q q=>by
 obtain⟨ρ,Hi,R,ou⟩:=q;refine zPP R ou fun c Hi1 H1 e1 R1 o1=>?_
 cases c with
 | true=>exact o1.here R1.s
 | false=>exact⟨ρ,Hi1,R1,o1⟩
theorem PWd.pt{e:Expr}(h:PWd X G e t):PTd X G e t:=PW.pt h
theorem zOq{op}(h:PEd X G a f):PEd X G (.BoolOp op [a] pos) f:=zPH h
theorem zQJ{rest:List Expr}(ha:PEd X G a f)(hb:PEd X G (.BoolOp .Or (b::rest) pos) g):PEd X G (.BoolOp .Or (a::b::rest) pos) (eOr f g):=PE.wk (zQw ha hb) fun σ H Q q=>by
 obtain⟨ρ,Hi,R,ou⟩:=q;refine zFb R ou fun v d Hi1 H1 e1 R1 r1 o1=>?_
 cases d with
 | bl c=>
  refine⟨c,r1.blI,?_⟩
  cases c with
  | true=>exact o1.here R1.s _ (.bl true)
  | false=>exact⟨ρ,Hi1,R1,o1⟩
 | _=>exact o1.elim
theorem pO(ha:PEd X G a f):PEd X G (.UnaryOp .USub a pos) (eUn zAQ f):=PE.wk (zQL zOP ha) fun σ H Q q=>by
 obtain⟨ρ,Hi,R,ou⟩:=q;refine zFb R ou fun v d Hi1 H1 e1 R1 r1 o1=>?_
 cases d with
 | int c=>exact⟨c,r1.intI,o1.here R1.s _ (.int _)⟩
 | _=>exact o1.elim
theorem zLQ{c:Expr}(hc:PTd X G c t)(ha:PEd X G a f)(hb:PEd X G b g):PEd X G (.IfExp c a b pos) (eIf t f g):=PE.wk (zKp hc ha hb) fun σ H Q q=>by
 obtain⟨ρ,Hi,R,ou⟩:=q;refine zPP R ou fun c Hi1 H1 e1 R1 o1=>?_
 cases c with
 | true=>exact⟨ρ,Hi1,R1,o1⟩
 | false=>exact⟨ρ,Hi1,R1,o1⟩
variable{fs:Fv}
theorem aF:PAd X G [] aNil:=PA.wk uR fun σ H Q q=>by
 obtain⟨ρ,Hi,R,ou⟩:=q;exact ou.here R.s [] .nil
theorem aA(ha:PEd X G e f)(hr:PAd X G es fs)(hs:starEach (e::es) X.env=(false,eval e X.env)::starEach es X.env:=by rfl):PAd X G (e::es) (aE f fs):=PA.wk (oE ha hr hs) fun σ H Q q=>by
 obtain⟨ρ,Hi,R,ou⟩:=q;refine zFb R ou fun v d Hi1 H1 e1 R1 r1 o1=>?_
 refine⟨ρ,Hi1,R1,o1.bind.imp fun ds Hi2 H2 e2 o2 vs rs=>?_⟩
 exact o2.here e2.s _ (.cons (r1.mono e2.i) rs)
theorem zKo{Hi H:Hp}{σ:St}{ρ:Rho}{β:Type}{k:List D->Res β}{k':β->Hp->Hp->Prop}{Q:List V->Hp->Prop}(R:lN X G Hi H σ ρ)(o:Out G Hi H ((fs ρ).bind k) k')
  (w:∀ vs ds Hi' H',Ext Hi H Hi' H'->lN X G Hi' H' σ ρ->IsDs X.K Hi' vs ds->Out G Hi' H' (k ds) k'->Q vs H'):tAs X G fs σ H Q:=
 ⟨ρ,Hi,R,o.bind.imp fun d Hi' H' e q v r=>w v d Hi' H' e (R.grow e) r q⟩
theorem eN{x1}(h:PAd X G es fs):PEd X G (.Tuple es x1 pos) (sW fs):=PE.wk (zOU h) fun σ H Q q=>by
 obtain⟨ρ,Hi,R,ou⟩:=q;refine zKo R ou fun vs ds Hi1 H1 e1 R1 r1 o1=>?_
 by_cases hz:ds.length<=16777216
 ·rw[if_pos hz] at o1
  refine⟨by rw[r1.length];exact hz,fun p hp=>?_⟩
  exact o1 _ _ (Ext.new R1.s hp) (.ref p) (.tup (SqT.of bB) (r1.mono (dB (R1.s.none hp) _)))
 ·rw[if_neg hz] at o1;exact o1.elim
theorem cN(h:PAd X G es fs):PEf X G (.List es pos) (lQ fs):=PE.wk (zPg h) fun σ H Q q=>by
 obtain⟨ρ,Hi,R,ou⟩:=q;refine zKo R ou fun vs ds Hi1 H1 e1 R1 r1 o1=>?_
 by_cases hz:ds.length<=16777216
 ·rw[if_pos hz] at o1
  refine⟨by rw[r1.length];exact hz,fun p hp=>?_⟩
  exact o1 _ _ (Ext.newF R1.s hp) p ⟨e1.h.none hp,R1.s.none hp,vs,bB,r1⟩
 ·rw[if_neg hz] at o1;exact o1.elim
theorem PEf.d(h:PEf X G e fs):PEd X G e (eF fs):=PE.wk h fun σ H Q q=>by
 obtain⟨ρ,Hi,R,ou⟩:=q;refine⟨ρ,Hi,R,?_⟩
 cases z:fs ρ with
 | no=>unfold eF at ou;rw[z] at ou;exact ou
 | err c=>unfold eF at ou;rw[z] at ou;exact ou
 | ok ds=>
  unfold eF at ou;rw[z] at ou
  intro Hi1 H1 e1 a n;obtain⟨n1,n2,xs,n3,n4⟩:=n;have ou':∀ Hi' H',Ext Hi H Hi' H'->∀ v,IsD X.K Hi' v (.lst ds)->Q v H':=ou;exact ou' _ _ (e1.hold n1 n3 n2) (.ref a) (.lst (SqL.of bB) (n4.mono (dB n2 _)))
theorem PEd.frz(h:PEd X G e f):PEd X G e (zPW f):=PE.wk h fun σ H Q q=>by
 obtain⟨ρ,Hi,R,ou⟩:=q;obtain⟨Hf,s1,R1,fl⟩:=R.frz;refine⟨ρ.map Sl.frz,Hf,R1,?_⟩
 unfold zPW at ou
 cases z:f (ρ.map Sl.frz) with
 | no=>rw[z] at ou;exact ou
 | err c=>
  rw[z] at ou;intro Hi1 H1 e1;have ou':∀ Hi' H',Ext Hi H Hi' H'->G.E c H':=ou;obtain⟨Ht,e2,k,s2,n⟩:=Ext.thaw s1 fl R1.s e1;exact ou' Ht H1 e2
 | ok d=>
  rw[z] at ou;by_cases hz:noL d=true
  ·have ou':Out G Hi H (if noL d=true then Res.ok d else .no) _:=ou
   rw[if_pos hz] at ou';intro Hi1 H1 e1 v r;obtain⟨Ht,e2,k,s2,n⟩:=Ext.thaw s1 fl R1.s e1;exact ou' Ht H1 e2 v (r.noL k hz)
  ·have ou':Out G Hi H (if noL d=true then Res.ok d else .no) _:=ou
   rw[if_neg hz] at ou';exact ou'.elim
end
end L3
namespace L3
open PySem PySem.Spec PyProof.Rows L2
unseal PEd PEf PTd PWd PAd PSd fO
section
variable{X:Cx}{G:Gx}{a b e:Expr}{es:List Expr}{pos:Pos}{f g:Ev}{fs:Fv}{t u:Tv}
theorem PEf.frz(h:PEf X G e fs):PEf X G e (zNJ fs):=PE.wk h fun σ H Q q=>by
 obtain⟨ρ,Hi,R,ou⟩:=q;obtain⟨Hf,s1,R1,fl⟩:=R.frz;refine⟨ρ.map Sl.frz,Hf,R1,?_⟩
 unfold zNJ at ou
 cases z:fs (ρ.map Sl.frz) with
 | no=>rw[z] at ou;exact ou
 | err c=>
  rw[z] at ou;intro Hi1 H1 e1;have ou':∀ Hi' H',Ext Hi H Hi' H'->G.E c H':=ou;obtain⟨Ht,e2,k,s2,n⟩:=Ext.thaw s1 fl R1.s e1;exact ou' Ht H1 e2
 | ok ds=>
  rw[z] at ou;have ou':Out G Hi H (if noLs ds=true then Res.ok ds else .no) _:=ou;by_cases hz:noLs ds=true
  ·rw[if_pos hz] at ou'
   intro Hi1 H1 e1 a n;obtain⟨n1,n2,xs,n3,n4⟩:=n;obtain⟨Ht,e2,k,s2,_⟩:=Ext.thaw s1 fl R1.s e1;exact ou' Ht H1 e2 a ⟨n1,s2.none n2,xs,n3,n4.noL k hz⟩
  ·rw[if_neg hz] at ou';exact ou'.elim
theorem OpR.or{o:Value->Value->Sem Value}{r r':R2}(h:OpR X o r)(h':OpR X o r'):OpR X o (fun x y H Q=>r x y H Q∨r' x y H Q):=by
 intro pins s σ H x y v u Q I rx ry q;rcases q with q | q
 ·exact h pins s σ H x y v u Q I rx ry q
 ·exact h' pins s σ H x y v u Q I rx ry q
theorem zNO{o:Op2}{h:Int->Int->Int}(hi:∀ i j,o (.int i) (.int j)=.ok (.int (h i j)))(hn:∀ a b d,o a b=.ok d->∃ i j,a=.int i/\b=.int j)(he:∀ a b c,o a b≠.err c):OpK X (rI0 fun i j=>.int (h i j)) o:=
 ⟨he,fun Hi H x y a b d Q s r1 r2 z q=>by
  obtain⟨i,j,rfl,rfl⟩:=hn a b d z;rw[hi] at z;cases z
  exact⟨i,j,r1.intI,r2.intI,q _ Hi H (Ext.refl s) (.int _)⟩⟩
theorem zIe{o:Op2}{h:Int->Int->Bool}(hi:∀ i j,o (.int i) (.int j)=.ok (.bl (h i j)))(hn:∀ a b d,o a b=.ok d->∃ i j,a=.int i/\b=.int j)(he:∀ a b c,o a b≠.err c):OpK X (rI0 fun i j=>.bl (h i j)) o:=
 ⟨he,fun Hi H x y a b d Q s r1 r2 z q=>by
  obtain⟨i,j,rfl,rfl⟩:=hn a b d z;rw[hi] at z;cases z
  exact⟨i,j,r1.intI,r2.intI,q _ Hi H (Ext.refl s) (.bl _)⟩⟩
theorem zDc:OpK X (rI0 fun i j=>.int (i - j)) zCt:=zNO (fun _ _=>rfl) (fun a b d z=>by unfold zCt at z;split at z<;>first | exact⟨_,_,rfl,rfl⟩ | cases z) (fun a b c z=>by unfold zCt at z;split at z<;>cases z)
theorem zDV:OpK X (rI0 fun i j=>.bl (decide (i < j))) oLt:=zIe (fun _ _=>rfl) (fun a b d z=>by unfold oLt at z;split at z<;>first | exact⟨_,_,rfl,rfl⟩ | cases z) (fun a b c z=>by unfold oLt at z;split at z<;>cases z)
theorem zQn:OpK X (rI0 fun i j=>.bl (decide (j < i))) oGt:=zIe (fun _ _=>rfl) (fun a b d z=>by unfold oGt at z;split at z<;>first | exact⟨_,_,rfl,rfl⟩ | cases z) (fun a b c z=>by unfold oGt at z;split at z<;>cases z)
theorem zRS:OpK X (rI0 fun i j=>.bl (decide (j<=i))) oGe:=zIe (fun _ _=>rfl) (fun a b d z=>by unfold oGe at z;split at z<;>first | exact⟨_,_,rfl,rfl⟩ | cases z) (fun a b c z=>by unfold oGe at z;split at z<;>cases z)
theorem zJq{o:Op2}{C:Int->Int->Prop}{h:Int->Int->Int}(hn:∀ a b d,o a b=.ok d->∃ i j,a=.int i/\b=.int j/\C i j/\d=.int (h i j))(he:∀ a b c,o a b≠.err c):OpK X (rI C fun i j=>.int (h i j)) o:=
 ⟨he,fun Hi H x y a b d Q s r1 r2 z q=>by
  obtain⟨i,j,rfl,rfl,hc,rfl⟩:=hn a b d z
  exact⟨i,j,r1.intI,r2.intI,hc,q _ Hi H (Ext.refl s) (.int _)⟩⟩
def zPJ(i j:Int):Prop:=jX i j=true
theorem cC:OpR X (binaryOp .Mult) (rI zPJ fun i j=>.int (i * j)):=opI fun i j _ _ _ _ _ hc q=>by
 have hc':jX i j=true:=hc;unfold jX at hc';simp only[VL,Va,decide_eq_true_eq] at hc';rcases hc' with (⟨h1,h2⟩ | ⟨h1,h2⟩) | h
 ·exact mul_int q (zPS.ok (.inl ⟨h1,h2⟩))
 ·exact mul_int q (zPS.ok (.inr ⟨h1,h2⟩))
 ·exact mul_int q (PySem.IntMulOk.of_le (XV.mpr (zLL i)) (XV.mpr (zLL j)) h)
def zPk(_ j:Int):Prop:=lP j=true
theorem cW:OpR X (binaryOp .FloorDiv) (rI zPk fun i j=>.int (i.fdiv j)):=opI fun i j _ _ _ _ _ hc q=>by
 have hc':lP j=true:=hc;unfold lP at hc';simp only[Va,decide_eq_true_eq] at hc';refine floordiv_int hc'.1 q (.inl (PyProof.noPylong_of_log2 ?_))
 have h2:=hc'.2;unfold nb at h2;omega
def zNV(i j:Int):Prop:=rL i j=true
theorem zAw:OpR X (binaryOp .Pow) (rI zNV fun i j=>.int (i^j.toNat)):=opI fun i j _ _ _ _ _ hc q=>by
 have hc':rL i j=true:=hc;unfold rL at hc';simp only[Va,decide_eq_true_eq] at hc';refine pow_int hc'.1 (QV (Yo ?_ hc'.1) hc'.2) q
 have:=XV.mpr (zLL i)
 omega
theorem iH:OpK X (rI zPJ fun i j=>.int (i * j)) qG:=zJq (fun a b d z=>by
 unfold qG at z;split at z
 case h_2=>cases z
 rename_i i j
 have z':(if jX i j=true then Res.ok (D.int (i * j)) else .no)=.ok d:=z;by_cases h:jX i j=true
 ·rw[if_pos h] at z';cases z';exact⟨i,j,rfl,rfl,h,rfl⟩
 ·rw[if_neg h] at z';cases z') (fun a b c z=>by
 unfold qG at z;split at z
 case h_2=>cases z
 rename_i i j
 have z':(if jX i j=true then Res.ok (D.int (i * j)) else .no)=.err c:=z;by_cases h:jX i j=true
 ·rw[if_pos h] at z';cases z'
 ·rw[if_neg h] at z';cases z')
theorem kF:OpK X (rI zPk fun i j=>.int (i.fdiv j)) rY:=zJq (fun a b d z=>by
 unfold rY at z;split at z
 case h_2=>cases z
 rename_i i j
 have z':(if lP j=true then Res.ok (D.int (i.fdiv j)) else .no)=.ok d:=z;by_cases h:lP j=true
 ·rw[if_pos h] at z';cases z';exact⟨i,j,rfl,rfl,h,rfl⟩
 ·rw[if_neg h] at z';cases z') (fun a b c z=>by
 unfold rY at z;split at z
 case h_2=>cases z
 rename_i i j
 have z':(if lP j=true then Res.ok (D.int (i.fdiv j)) else .no)=.err c:=z;by_cases h:lP j=true
 ·rw[if_pos h] at z';cases z'
 ·rw[if_neg h] at z';cases z')
theorem lM:OpK X (rI (fun _ j=>j≠0) fun i j=>.int (i.fmod j)) vQ:=zJq (fun a b d z=>by
 unfold vQ at z;split at z
 case h_2=>cases z
 rename_i i j
 have z':(if j≠0 then Res.ok (D.int (i.fmod j)) else .no)=.ok d:=z;by_cases h:j≠0
 ·rw[if_pos h] at z';cases z';exact⟨i,j,rfl,rfl,h,rfl⟩
 ·rw[if_neg h] at z';cases z') (fun a b c z=>by
 unfold vQ at z;split at z
 case h_2=>cases z
 rename_i i j
 have z':(if j≠0 then Res.ok (D.int (i.fmod j)) else .no)=.err c:=z;by_cases h:j≠0
 ·rw[if_pos h] at z';cases z'
 ·rw[if_neg h] at z';cases z')
theorem zJg:OpK X (rI zNV fun i j=>.int (i^j.toNat)) zLm:=zJq (fun a b d z=>by
 unfold zLm at z;split at z
 case h_2=>cases z
 rename_i i j
 have z':(if rL i j=true then Res.ok (D.int (i^j.toNat)) else .no)=.ok d:=z;by_cases h:rL i j=true
 ·rw[if_pos h] at z';cases z';exact⟨i,j,rfl,rfl,h,rfl⟩
 ·rw[if_neg h] at z';cases z') (fun a b c z=>by
 unfold zLm at z;split at z
 case h_2=>cases z
 rename_i i j
 have z':(if rL i j=true then Res.ok (D.int (i^j.toNat)) else .no)=.err c:=z;by_cases h:rL i j=true
 ·rw[if_pos h] at z';cases z'
 ·rw[if_neg h] at z';cases z')
def zNL(K:PySem.W.Frag):R2:=fun x y H Q=>∃ a b ys,x=.ref a/\y=.ref b/\SqT K H a []/\SqT K H b ys/\Q (.ref b) H
theorem zNr:OpR X (binaryOp .Add) (zNL X.K):=by
 intro pins s σ H x y v u Q I rx ry h;obtain⟨a,b,ys,rfl,rfl,ha,hb,q⟩:=h;cases rx;cases ry;obtain⟨its,r1,p1,_⟩:=I.tuple ha;obtain⟨its2,r2,p2,_⟩:=I.tuple hb;cases r1;obtain⟨⟨c1,d1,t1,s1⟩,ho1,hc1,n1,hd1⟩:=id p1;obtain⟨⟨c2,d2,t2,s2⟩,ho2,hc2,n2,hd2⟩:=id p2;simp only at hc1 hd1 hc2 hd2
 subst hc1 hd1 hc2 hd2;exact concat_meets ⟨_,ho1,rfl⟩ ⟨_,ho2,rfl⟩ noFill_tuple_add seq_tuple_add Xy Xz (XA _ _) (tuple_addW0 a b #[] its2.toArray n1 n2 d1 d2 s1 s2 rfl) ⟨ho1,ho2,⟨.ref b,H,I,rfl,q⟩⟩
def zNX(K:PySem.W.Frag):R2:=fun x y H Q=>rI0 (fun i j=>.int (i+j)) x y H Q∨(zPn K x y H Q∨zNL K x y H Q)
theorem dU:OpR X (binaryOp .Add) (zNX X.K):=OpR.or zNZ (OpR.or zNe zNr)
theorem lO:OpK X (zNX X.K) sV:=⟨fun a b c z=>(by
  unfold sV at z;split at z
  case h_1=>cases z
  case h_3=>cases z
  rename_i as bs
  have z':(if as.length+bs.length<=16777216 then Res.ok (D.tup (as++bs)) else .no)=.err c:=z
  split at z'<;>cases z'),fun Hi H x y a b d Q s r1 r2 z q=>by
  unfold sV at z;split at z
  case h_3=>cases z
  ·cases z
   exact .inl ⟨_,_,r1.intI,r2.intI,q _ Hi H (Ext.refl s) (.int _)⟩
  ·rename_i as bs
   have z':(if as.length+bs.length<=16777216 then Res.ok (D.tup (as++bs)) else .no)=.ok d:=z;split at z'
   ·rename_i hz
    cases z'
    obtain⟨p,xs,rfl,h1,i1⟩:=r1.tupI;obtain⟨p',ys,rfl,h2,i2⟩:=r2.tupI;by_cases h0:as.length=0
    ·have e0:as=[]:=XW h0
     subst e0;cases i1;exact .inr (.inr ⟨p,p',ys,rfl,rfl,cQ s h1,cQ s h2,q _ Hi H (Ext.refl s) (.tup h2 i2)⟩)
    refine .inr (.inl ⟨p,p',xs,ys,rfl,rfl,cQ s h1,cQ s h2,fun e=>h0 (by rw[<-i1.length,e];rfl),by rw[i1.length,i2.length];exact hz,fun e=>?_,fun _ l hl=>?_⟩)
    ·subst e
     cases i2;rw[QS] at q;exact q _ Hi H (Ext.refl s) (.tup h1 i1)
    ·exact q _ _ _ (Ext.new s hl) (.tup (SqT.of bB) ((i1.append i2).mono (dB (s.none hl) _)))
   ·cases z'⟩
theorem zLX{α:Type}{xs:List α}{i:Int}{v:α}(h0:i < 0)(h1:0<=(xs.length:Int)+i)(h:xs[((xs.length:Int)+i).toNat]?=some v):atI xs i=some v:=by
 have e:ixN xs.length i=some ((xs.length:Int)+i).toNat:=by
  unfold ixN;rw[if_neg (by omega),if_pos (by omega)];congr 2
  omega
 unfold atI;rw[e];exact h
theorem zHJ{K:PySem.W.Frag}{H:Hp}{xs:List V}{ds:List D}{i:Int}{d:D}(h:IsDs K H xs ds)(e:atD ds i=some d):∃ v,atI xs i=some v/\IsD K H v d:=by
 unfold atD at e;by_cases h0:0<=i
 ·rw[if_pos h0] at e
  obtain⟨v,hv,r⟩:=h.at e;refine⟨v,?_,r⟩
  have:=zDC hv
  rw[show((i.toNat:Nat):Int)=i by omega] at this;exact this
 ·rw[if_neg h0] at e
  by_cases h1:0<=(ds.length:Int)+i
  ·rw[if_pos h1] at e
   obtain⟨v,hv,r⟩:=h.at e;refine⟨v,?_,r⟩
   have hl:=h.length;have e2:((ds.length:Int)+i).toNat=((xs.length:Int)+i).toNat:=by rw[hl]
   rw[e2] at hv;exact zLX (by omega) (by omega) hv
  ·rw[if_neg h1] at e;cases e
theorem bR:OpK X (fun x y H Q=>zPU X.K x y H Q∨zPV X.K x y H Q) oIx:=⟨fun a b c z=>(by
  unfold oIx at z;split at z
  case h_3=>cases z
  ·rename_i ds i
   have z':ofO (atD ds i)=Res.err c:=z;cases q:atD ds i<;>rw[q] at z'<;>cases z'
  ·rename_i ds i
   have z':ofO (atD ds i)=Res.err c:=z
   cases q:atD ds i<;>rw[q] at z'<;>cases z'),fun Hi H x y a b d Q s r1 r2 z q=>by
  unfold oIx at z;split at z
  case h_3=>cases z
  ·rename_i ds i
   have z':ofO (atD ds i)=Res.ok d:=z
   cases w:atD ds i with
   | none=>rw[w] at z';cases z'
   | some d'=>
    rw[w] at z';cases z'
    obtain⟨p,xs,rfl,h1,i1⟩:=r1.tupI;obtain⟨v,hv,r⟩:=zHJ i1 w;exact .inr ⟨p,xs,i,v,rfl,r2.intI,cQ s h1,hv,q v Hi H (Ext.refl s) r⟩
  ·rename_i ds i
   have z':ofO (atD ds i)=Res.ok d:=z
   cases w:atD ds i with
   | none=>rw[w] at z';cases z'
   | some d'=>
    rw[w] at z';cases z'
    obtain⟨p,xs,rfl,h1,i1⟩:=r1.lstI;obtain⟨v,hv,r⟩:=zHJ i1 w
    exact .inl ⟨p,xs,i,v,rfl,r2.intI,cY s h1,hv,q v Hi H (Ext.refl s) r⟩⟩
theorem aL:IxR X (fun x y H Q=>zPU X.K x y H Q∨zPV X.K x y H Q):=zNx.or zPE
end
section
variable{X:Cx}{pins:List (Addr×Obj)}{σ:St}{H:Hp}{s:Shared}
mutual
theorem IsD.inj(I:Inv X pins σ H s):∀ {v:V} {d e:D},IsD X.K H v d->IsD X.K H v e->d=e
 | _,_,_,.non,h=>by cases h;rfl
 | _,_,_,.bl b,h=>by cases h;rfl
 | _,_,_,.int i,h=>by cases h;rfl
 | _,_,_,.str x,h=>by cases h;rfl
 | _,_,_,.tup h hs,h2=>by
  cases h2 with
  | tup h' hs'=>
   have e:=I.tuple_inj h h';subst e;rw[IsDs.inj I hs hs']
  | lst h' hs'=>
   exfalso
   obtain⟨_,_,⟨o,e,c,_⟩,_⟩:=I.tuple h;obtain⟨_,_,⟨o',n',e',c',_⟩,_⟩:=I.list h';rw[e] at e';cases e';rw[c] at c';exact absurd c' (by decide)
 | _,_,_,.lst h hs,h2=>by
  cases h2 with
  | lst h' hs'=>
   have e:=I.list_inj h h';subst e;rw[IsDs.inj I hs hs']
  | tup h' hs'=>
   exfalso
   obtain⟨_,_,⟨o,e,c,_⟩,_⟩:=I.tuple h';obtain⟨_,_,⟨o',n',e',c',_⟩,_⟩:=I.list h;rw[e] at e';cases e';rw[c] at c';exact absurd c' (by decide)
theorem IsDs.inj(I:Inv X pins σ H s):∀ {vs:List V} {ds es:List D},IsDs X.K H vs ds->IsDs X.K H vs es->ds=es
 | _,_,_,.nil,h=>by cases h;rfl
 | _,_,_,.cons h hs,h2=>by
  cases h2 with
  | cons h' hs'=>rw[IsD.inj I h h',IsDs.inj I hs hs']
end
theorem zGG{α:Type}{l:List α}{j:Nat}{x d:α}(h:l[j]?=some x):l.getD j d=x:=by
 rw[Qy,h];rfl
theorem nG{A:Around}{xs xs':List V}{ds ds':List D}{its its':List Value}(hs:IsDs X.K H xs ds)(hs':IsDs X.K H xs' ds')(rv:dR xs its)(rv':dR xs' its')
  (rc:∀(d d':D)(v v':V)(u u':Value),d∈ds->IsD X.K H v d->IsD X.K H v' d'->dE v u->dE v' u'->SeqAt.EqAt A s u u' (eqD d d'))
  (j:Nat) (g1:j < its.toArray.size) (g2:j < its'.toArray.size):SeqAt.EqAt A s its.toArray[j] its'.toArray[j] (eqD (ds.getD j .non) (ds'.getD j .non)):=by
 have g1':j < its.length:=by simpa using g1
 have g2':j < its'.length:=by simpa using g2
 have l1:its.length=ds.length:=by rw[<-rv.length,hs.length]
 have l2:its'.length=ds'.length:=by rw[<-rv'.length,hs'.length]
 obtain⟨d,hd⟩:∃ d,ds[j]?=some d:=⟨_,Qn (by omega)⟩
 obtain⟨d',hd'⟩:∃ d,ds'[j]?=some d:=⟨_,Qn (by omega)⟩
 obtain⟨v,hv,iv⟩:=hs.at hd;obtain⟨v',hv',iv'⟩:=hs'.at hd';obtain⟨w1,hw,rw1⟩:=rv.get hv;obtain⟨w2,hw',rw2⟩:=rv'.get hv'
 have e1:its.toArray[j]=w1:=by
  rw[Qn g1'] at hw;simpa using hw
 have e2:its'.toArray[j]=w2:=by
  rw[Qn g2'] at hw';simpa using hw'
 rw[e1,e2,zGG hd,zGG hd'];exact rc d d' v v' w1 w2 (Qi hd) iv iv' rw1 rw2
theorem iQ{ds ds':List D}(h:ds.length=ds'.length):((List.range ds.length).all fun j=>eqD (ds.getD j .non) (ds'.getD j .non))=zFY ds ds':=by
 rw[nF,<-h,Xm];simp
theorem zAA{ds ds':List D}(h:ds.length≠ds'.length):zFY ds ds'=false:=by
 rw[nF];simp[h]
theorem zBp(I:Inv X pins σ H s){A:Around}{v v':V}{d d':D}{u u':Value}(h1:IsD X.K H v d)(h2:IsD X.K H v' d')(r1:dE v u)(r2:dE v' u')(hu:A.units < cLine)
  (rc:∀ ds,(d=.tup ds∨d=.lst ds)->∀(e e':D)(w w':V)(z z':Value),e∈ds->IsD X.K H w e->IsD X.K H w' e'->dE w z->dE w' z'->SeqAt.EqAt A.in1 s z z' (eqD e e')):
  SeqAt.EqAt A s u u' (eqD d d'):=by
 cases h1 with
 | non=>
  cases (show u=Value.none from r1)
  cases h2 with
  | non=>cases (show u'=Value.none from r2);exact SeqAt.EqAt.same _
  | bl b=>cases (show u'=Value.bool _ from r2);exact SeqAt.EqAt.none_bool _
  | int i=>obtain⟨t,rfl⟩:=r2;exact SeqAt.EqAt.none_int _ _
  | str x=>obtain⟨t,rfl⟩:=r2;exact SeqAt.EqAt.none_str _ _
  | tup h hs=>cases (show u'=Value.ref _ from r2);obtain⟨its,rv,p,hz⟩:=I.tuple h;exact SeqAt.EqAt.none_tuple (show s.heap.IsTuple _ its.toArray from p) hu
  | lst h hs=>cases (show u'=Value.ref _ from r2);obtain⟨its,rv,p,hz⟩:=I.list h;exact SeqAt.EqAt.none_list p.isList hu
 | bl b=>
  cases (show u=Value.bool _ from r1)
  cases h2 with
  | non=>cases (show u'=Value.none from r2);exact SeqAt.EqAt.bool_none _
  | bl b=>cases (show u'=Value.bool _ from r2);exact SeqAt.EqAt.bool_bool _ _
  | int i=>obtain⟨t,rfl⟩:=r2;exact SeqAt.EqAt.bool_int _ _ _
  | str x=>obtain⟨t,rfl⟩:=r2;exact SeqAt.EqAt.bool_str _ _ _
  | tup h hs=>cases (show u'=Value.ref _ from r2);obtain⟨its,rv,p,hz⟩:=I.tuple h;exact SeqAt.EqAt.bool_tuple _ (show s.heap.IsTuple _ its.toArray from p) hu
  | lst h hs=>cases (show u'=Value.ref _ from r2);obtain⟨its,rv,p,hz⟩:=I.list h;exact SeqAt.EqAt.bool_list _ p.isList hu
 | int i=>
  obtain⟨t,rfl⟩:=r1
  cases h2 with
  | non=>cases (show u'=Value.none from r2);exact SeqAt.EqAt.int_none _ _
  | bl b=>cases (show u'=Value.bool _ from r2);exact SeqAt.EqAt.int_bool _ _ _
  | int i=>obtain⟨t,rfl⟩:=r2;exact SeqAt.EqAt.int_int _ _ _ _
  | str x=>obtain⟨t,rfl⟩:=r2;exact SeqAt.EqAt.int_str _ _ _ _
  | tup h hs=>cases (show u'=Value.ref _ from r2);obtain⟨its,rv,p,hz⟩:=I.tuple h;exact SeqAt.EqAt.int_tuple _ _ (show s.heap.IsTuple _ its.toArray from p) hu
  | lst h hs=>cases (show u'=Value.ref _ from r2);obtain⟨its,rv,p,hz⟩:=I.list h;exact SeqAt.EqAt.int_list _ _ p.isList hu
 | str x=>
  obtain⟨t,rfl⟩:=r1
  cases h2 with
  | non=>cases (show u'=Value.none from r2);exact SeqAt.EqAt.str_none _ _
  | bl b=>cases (show u'=Value.bool _ from r2);exact SeqAt.EqAt.str_bool _ _ _
  | int i=>obtain⟨t,rfl⟩:=r2;exact SeqAt.EqAt.str_int _ _ _ _
  | str x=>obtain⟨t,rfl⟩:=r2;exact SeqAt.EqAt.str_str _ _ _ _
  | tup h hs=>cases (show u'=Value.ref _ from r2);obtain⟨its,rv,p,hz⟩:=I.tuple h;exact SeqAt.EqAt.str_tuple _ _ (show s.heap.IsTuple _ its.toArray from p) hu
  | lst h hs=>cases (show u'=Value.ref _ from r2);obtain⟨its,rv,p,hz⟩:=I.list h;exact SeqAt.EqAt.str_list _ _ p.isList hu
 | @tup a xs ds h hs=>
  cases (show u=Value.ref a from r1)
  obtain⟨its,rv,p,hz⟩:=I.tuple h
  cases h2 with
  | non=>cases (show u'=Value.none from r2);exact SeqAt.EqAt.tuple_none (show s.heap.IsTuple _ its.toArray from p) hu
  | bl b=>cases (show u'=Value.bool _ from r2);exact SeqAt.EqAt.tuple_bool _ (show s.heap.IsTuple _ its.toArray from p) hu
  | int i=>obtain⟨t,rfl⟩:=r2;exact SeqAt.EqAt.tuple_int _ _ (show s.heap.IsTuple _ its.toArray from p) hu
  | str x=>obtain⟨t,rfl⟩:=r2;exact SeqAt.EqAt.tuple_str _ _ (show s.heap.IsTuple _ its.toArray from p) hu
  | @tup a' xs' ds' h' hs'=>
   cases (show u'=Value.ref a' from r2)
   by_cases e:a=a'
   ·subst e
    have e:=I.tuple_inj h h';subst e;have e:=IsDs.inj I hs hs';subst e;rw[tG];exact SeqAt.EqAt.same _
   ·obtain⟨its',rv',p',hz'⟩:=I.tuple h'
    have l1:its.toArray.size=ds.length:=by rw[Qk,<-rv.length,hs.length]
    have l2:its'.toArray.size=ds'.length:=by rw[Qk,<-rv'.length,hs'.length]
    have key:=SeqAt.RcAt.tuples (A:=A) (s:=s) (show s.heap.IsTuple a its.toArray from p) (show s.heap.IsTuple a' its'.toArray from p') hu
     (nG (A:=A.in1) (s:=s) hs hs' rv rv' fun d d' v v' u u' hm iv iv' r r'=>rc ds (.inl rfl) d d' v v' u u' hm iv iv' r r')
    rw[l1,l2,<-nF] at key;exact SeqAt.EqAt.of_refs e key
  | @lst a' xs' ds' h' hs'=>
   cases (show u'=Value.ref a' from r2)
   obtain⟨its',rv',p',hz'⟩:=I.list h';exact SeqAt.EqAt.tuple_list (show s.heap.IsTuple _ its.toArray from p) p'.isList hu
 | @lst a xs ds h hs=>
  cases (show u=Value.ref a from r1)
  obtain⟨its,rv,p,hz⟩:=I.list h
  cases h2 with
  | non=>cases (show u'=Value.none from r2);exact SeqAt.EqAt.list_none p.isList hu
  | bl b=>cases (show u'=Value.bool _ from r2);exact SeqAt.EqAt.list_bool _ p.isList hu
  | int i=>obtain⟨t,rfl⟩:=r2;exact SeqAt.EqAt.list_int _ _ p.isList hu
  | str x=>obtain⟨t,rfl⟩:=r2;exact SeqAt.EqAt.list_str _ _ p.isList hu
  | @tup a' xs' ds' h' hs'=>
   cases (show u'=Value.ref a' from r2)
   obtain⟨its',rv',p',hz'⟩:=I.tuple h';exact SeqAt.EqAt.list_tuple p.isList (show s.heap.IsTuple _ its'.toArray from p') hu
  | @lst a' xs' ds' h' hs'=>
   cases (show u'=Value.ref a' from r2)
   by_cases e:a=a'
   ·subst e
    have e:=I.list_inj h h';subst e;have e:=IsDs.inj I hs hs';subst e;rw[tG];exact SeqAt.EqAt.same _
   ·obtain⟨its',rv',p',hz'⟩:=I.list h'
    have l1:its.toArray.size=ds.length:=by rw[Qk,<-rv.length,hs.length]
    have l2:its'.toArray.size=ds'.length:=by rw[Qk,<-rv'.length,hs'.length]
    by_cases hl:ds.length=ds'.length
    ·have key:=SeqAt.RcAt.lists (A:=A) (s:=s) p.isList p'.isList (by rw[l1,l2,hl]) hu
      (nG (A:=A.in1) (s:=s) hs hs' rv rv' fun d d' v v' u u' hm iv iv' r r'=>rc ds (.inr rfl) d d' v v' u u' hm iv iv' r r')
     rw[l1,iQ hl] at key;exact SeqAt.EqAt.of_refs e key
    ·have key:=SeqAt.RcAt.lists_lengths (A:=A) (s:=s) p.isList p'.isList (by rw[l1,l2];simp[hl]) hu
     rw[eqD,zAA hl];exact SeqAt.EqAt.of_refs e key
theorem zHd(I:Inv X pins σ H s)(n:Nat):∀ {v v':V} {d d':D},dep d<=n->IsD X.K H v d->IsD X.K H v' d'->
  ∀(A:Around)(u u':Value),A.units+n < cLine->dE v u->dE v' u'->SeqAt.EqAt A s u u' (eqD d d'):=by
 induction n with
 | zero=>
  intro v v' d d' hn h1 h2 A u u' hu r1 r2;refine zBp I h1 h2 r1 r2 (by omega) fun ds hd=>?_
  rcases hd with rfl | rfl<;>(rw[dep] at hn;omega)
 | succ n ih=>
  intro v v' d d' hn h1 h2 A u u' hu r1 r2;refine zBp I h1 h2 r1 r2 (by omega) fun ds hd e e' w w' z z' hm i1 i2 q1 q2=>?_
  refine ih ?_ i1 i2 A.in1 z z' (by show A.units+1+n < cLine;omega) q1 q2
  have:=vP hm
  rcases hd with rfl | rfl<;>(rw[dep] at hn;omega)
theorem zIB(I:Inv X pins σ H s){A:Around}{v v':V}{d d':D}{u u':Value}(h1:IsD X.K H v d)(h2:IsD X.K H v' d')(r1:dE v u)(r2:dE v' u')(hu:A.units < cLine)
  (rc:∀ ds,(d=.tup ds∨d=.lst ds)->∀(e e':D)(w w':V)(z z':Value),e∈ds->IsD X.K H w e->IsD X.K H w' e'->dE w z->dE w' z'->SeqAt.EqAt A.in1 s z z' (eqD e e')):
  SeqAt.RcAt A s u u' (eqD d d'):=by
 cases h1 with
 | non=>
  cases (show u=Value.none from r1)
  cases h2 with
  | non=>cases (show u'=Value.none from r2);exact SeqAt.RcAt.none_none
  | bl b=>cases (show u'=Value.bool _ from r2);exact SeqAt.RcAt.none_bool _
  | int i=>obtain⟨t,rfl⟩:=r2;exact SeqAt.RcAt.none_int _ _
  | str x=>obtain⟨t,rfl⟩:=r2;exact SeqAt.RcAt.none_str _ _
  | tup h hs=>cases (show u'=Value.ref _ from r2);obtain⟨its,rv,p,hz⟩:=I.tuple h;exact SeqAt.RcAt.none_tuple (show s.heap.IsTuple _ its.toArray from p) hu
  | lst h hs=>cases (show u'=Value.ref _ from r2);obtain⟨its,rv,p,hz⟩:=I.list h;exact SeqAt.RcAt.none_list p.isList hu
 | bl b=>
  cases (show u=Value.bool _ from r1)
  cases h2 with
  | non=>cases (show u'=Value.none from r2);exact SeqAt.RcAt.bool_none _
  | bl b=>cases (show u'=Value.bool _ from r2);exact SeqAt.RcAt.bool_bool _ _
  | int i=>obtain⟨t,rfl⟩:=r2;exact SeqAt.RcAt.bool_int _ _ _
  | str x=>obtain⟨t,rfl⟩:=r2;exact SeqAt.RcAt.bool_str _ _ _
  | tup h hs=>cases (show u'=Value.ref _ from r2);obtain⟨its,rv,p,hz⟩:=I.tuple h;exact SeqAt.RcAt.bool_tuple _ (show s.heap.IsTuple _ its.toArray from p) hu
  | lst h hs=>cases (show u'=Value.ref _ from r2);obtain⟨its,rv,p,hz⟩:=I.list h;exact SeqAt.RcAt.bool_list _ p.isList hu
 | int i=>
  obtain⟨t,rfl⟩:=r1
  cases h2 with
  | non=>cases (show u'=Value.none from r2);exact SeqAt.RcAt.int_none _ _
  | bl b=>cases (show u'=Value.bool _ from r2);exact SeqAt.RcAt.int_bool _ _ _
  | int i=>obtain⟨t,rfl⟩:=r2;exact SeqAt.RcAt.int_int _ _ _ _
  | str x=>obtain⟨t,rfl⟩:=r2;exact SeqAt.RcAt.int_str _ _ _ _
  | tup h hs=>cases (show u'=Value.ref _ from r2);obtain⟨its,rv,p,hz⟩:=I.tuple h;exact SeqAt.RcAt.int_tuple _ _ (show s.heap.IsTuple _ its.toArray from p) hu
  | lst h hs=>cases (show u'=Value.ref _ from r2);obtain⟨its,rv,p,hz⟩:=I.list h;exact SeqAt.RcAt.int_list _ _ p.isList hu
 | str x=>
  obtain⟨t,rfl⟩:=r1
  cases h2 with
  | non=>cases (show u'=Value.none from r2);exact SeqAt.RcAt.str_none _ _
  | bl b=>cases (show u'=Value.bool _ from r2);exact SeqAt.RcAt.str_bool _ _ _
  | int i=>obtain⟨t,rfl⟩:=r2;exact SeqAt.RcAt.str_int _ _ _ _
  | str x=>obtain⟨t,rfl⟩:=r2;exact SeqAt.RcAt.str_str _ _ _ _
  | tup h hs=>cases (show u'=Value.ref _ from r2);obtain⟨its,rv,p,hz⟩:=I.tuple h;exact SeqAt.RcAt.str_tuple _ _ (show s.heap.IsTuple _ its.toArray from p) hu
  | lst h hs=>cases (show u'=Value.ref _ from r2);obtain⟨its,rv,p,hz⟩:=I.list h;exact SeqAt.RcAt.str_list _ _ p.isList hu
 | @tup a xs ds h hs=>
  cases (show u=Value.ref a from r1)
  obtain⟨its,rv,p,hz⟩:=I.tuple h
  cases h2 with
  | non=>cases (show u'=Value.none from r2);exact SeqAt.RcAt.tuple_none (show s.heap.IsTuple _ its.toArray from p) hu
  | bl b=>cases (show u'=Value.bool _ from r2);exact SeqAt.RcAt.tuple_bool _ (show s.heap.IsTuple _ its.toArray from p) hu
  | int i=>obtain⟨t,rfl⟩:=r2;exact SeqAt.RcAt.tuple_int _ _ (show s.heap.IsTuple _ its.toArray from p) hu
  | str x=>obtain⟨t,rfl⟩:=r2;exact SeqAt.RcAt.tuple_str _ _ (show s.heap.IsTuple _ its.toArray from p) hu
  | @tup a' xs' ds' h' hs'=>
   cases (show u'=Value.ref a' from r2)
   ·obtain⟨its',rv',p',hz'⟩:=I.tuple h'
    have l1:its.toArray.size=ds.length:=by rw[Qk,<-rv.length,hs.length]
    have l2:its'.toArray.size=ds'.length:=by rw[Qk,<-rv'.length,hs'.length]
    have key:=SeqAt.RcAt.tuples (A:=A) (s:=s) (show s.heap.IsTuple a its.toArray from p) (show s.heap.IsTuple a' its'.toArray from p') hu
     (nG (A:=A.in1) (s:=s) hs hs' rv rv' fun d d' v v' u u' hm iv iv' r r'=>rc ds (.inl rfl) d d' v v' u u' hm iv iv' r r')
    rw[l1,l2,<-nF] at key;exact key
  | @lst a' xs' ds' h' hs'=>
   cases (show u'=Value.ref a' from r2)
   obtain⟨its',rv',p',hz'⟩:=I.list h';exact SeqAt.RcAt.tuple_list (show s.heap.IsTuple _ its.toArray from p) p'.isList hu
 | @lst a xs ds h hs=>
  cases (show u=Value.ref a from r1)
  obtain⟨its,rv,p,hz⟩:=I.list h
  cases h2 with
  | non=>cases (show u'=Value.none from r2);exact SeqAt.RcAt.list_none p.isList hu
  | bl b=>cases (show u'=Value.bool _ from r2);exact SeqAt.RcAt.list_bool _ p.isList hu
  | int i=>obtain⟨t,rfl⟩:=r2;exact SeqAt.RcAt.list_int _ _ p.isList hu
  | str x=>obtain⟨t,rfl⟩:=r2;exact SeqAt.RcAt.list_str _ _ p.isList hu
  | @tup a' xs' ds' h' hs'=>
   cases (show u'=Value.ref a' from r2)
   obtain⟨its',rv',p',hz'⟩:=I.tuple h';exact SeqAt.RcAt.list_tuple p.isList (show s.heap.IsTuple _ its'.toArray from p') hu
  | @lst a' xs' ds' h' hs'=>
   cases (show u'=Value.ref a' from r2)
   ·obtain⟨its',rv',p',hz'⟩:=I.list h'
    have l1:its.toArray.size=ds.length:=by rw[Qk,<-rv.length,hs.length]
    have l2:its'.toArray.size=ds'.length:=by rw[Qk,<-rv'.length,hs'.length]
    by_cases hl:ds.length=ds'.length
    ·have key:=SeqAt.RcAt.lists (A:=A) (s:=s) p.isList p'.isList (by rw[l1,l2,hl]) hu
      (nG (A:=A.in1) (s:=s) hs hs' rv rv' fun d d' v v' u u' hm iv iv' r r'=>rc ds (.inr rfl) d d' v v' u u' hm iv iv' r r')
     rw[l1,iQ hl] at key;exact key
    ·have key:=SeqAt.RcAt.lists_lengths (A:=A) (s:=s) p.isList p'.isList (by rw[l1,l2];simp[hl]) hu
     rw[eqD,zAA hl];exact key
theorem zHW(I:Inv X pins σ H s){A:Around}{v v':V}{d d':D}{u u':Value}(h1:IsD X.K H v d)(h2:IsD X.K H v' d')(r1:dE v u)(r2:dE v' u')(hu:A.units < cLine)
  (rc:∀ ds,(d=.tup ds∨d=.lst ds)->∀(e e':D)(w w':V)(z z':Value),e∈ds->IsD X.K H w e->IsD X.K H w' e'->dE w z->dE w' z'->SeqAt.EqAt A.in1 s z z' (eqD e e')):
  SeqAt.RcNeAt A s u u' (!eqD d d'):=by
 cases h1 with
 | non=>
  cases (show u=Value.none from r1)
  cases h2 with
  | non=>cases (show u'=Value.none from r2);exact SeqAt.RcNeAt.none_none
  | bl b=>cases (show u'=Value.bool _ from r2);exact SeqAt.RcNeAt.none_bool _
  | int i=>obtain⟨t,rfl⟩:=r2;exact SeqAt.RcNeAt.none_int _ _
  | str x=>obtain⟨t,rfl⟩:=r2;exact SeqAt.RcNeAt.none_str _ _
  | tup h hs=>cases (show u'=Value.ref _ from r2);obtain⟨its,rv,p,hz⟩:=I.tuple h;exact SeqAt.RcNeAt.none_tuple (show s.heap.IsTuple _ its.toArray from p) hu
  | lst h hs=>cases (show u'=Value.ref _ from r2);obtain⟨its,rv,p,hz⟩:=I.list h;exact SeqAt.RcNeAt.none_list p.isList hu
 | bl b=>
  cases (show u=Value.bool _ from r1)
  cases h2 with
  | non=>cases (show u'=Value.none from r2);exact SeqAt.RcNeAt.bool_none _
  | bl b=>cases (show u'=Value.bool _ from r2);exact SeqAt.RcNeAt.bool_bool _ _
  | int i=>obtain⟨t,rfl⟩:=r2;exact SeqAt.RcNeAt.bool_int _ _ _
  | str x=>obtain⟨t,rfl⟩:=r2;exact SeqAt.RcNeAt.bool_str _ _ _
  | tup h hs=>cases (show u'=Value.ref _ from r2);obtain⟨its,rv,p,hz⟩:=I.tuple h;exact SeqAt.RcNeAt.bool_tuple _ (show s.heap.IsTuple _ its.toArray from p) hu
  | lst h hs=>cases (show u'=Value.ref _ from r2);obtain⟨its,rv,p,hz⟩:=I.list h;exact SeqAt.RcNeAt.bool_list _ p.isList hu
 | int i=>
  obtain⟨t,rfl⟩:=r1
  cases h2 with
  | non=>cases (show u'=Value.none from r2);exact SeqAt.RcNeAt.int_none _ _
  | bl b=>cases (show u'=Value.bool _ from r2);exact SeqAt.RcNeAt.int_bool _ _ _
  | int i=>obtain⟨t,rfl⟩:=r2;exact SeqAt.RcNeAt.int_int _ _ _ _
  | str x=>obtain⟨t,rfl⟩:=r2;exact SeqAt.RcNeAt.int_str _ _ _ _
  | tup h hs=>cases (show u'=Value.ref _ from r2);obtain⟨its,rv,p,hz⟩:=I.tuple h;exact SeqAt.RcNeAt.int_tuple _ _ (show s.heap.IsTuple _ its.toArray from p) hu
  | lst h hs=>cases (show u'=Value.ref _ from r2);obtain⟨its,rv,p,hz⟩:=I.list h;exact SeqAt.RcNeAt.int_list _ _ p.isList hu
 | str x=>
  obtain⟨t,rfl⟩:=r1
  cases h2 with
  | non=>cases (show u'=Value.none from r2);exact SeqAt.RcNeAt.str_none _ _
  | bl b=>cases (show u'=Value.bool _ from r2);exact SeqAt.RcNeAt.str_bool _ _ _
  | int i=>obtain⟨t,rfl⟩:=r2;exact SeqAt.RcNeAt.str_int _ _ _ _
  | str x=>obtain⟨t,rfl⟩:=r2;exact SeqAt.RcNeAt.str_str _ _ _ _
  | tup h hs=>cases (show u'=Value.ref _ from r2);obtain⟨its,rv,p,hz⟩:=I.tuple h;exact SeqAt.RcNeAt.str_tuple _ _ (show s.heap.IsTuple _ its.toArray from p) hu
  | lst h hs=>cases (show u'=Value.ref _ from r2);obtain⟨its,rv,p,hz⟩:=I.list h;exact SeqAt.RcNeAt.str_list _ _ p.isList hu
 | @tup a xs ds h hs=>
  cases (show u=Value.ref a from r1)
  obtain⟨its,rv,p,hz⟩:=I.tuple h
  cases h2 with
  | non=>cases (show u'=Value.none from r2);exact SeqAt.RcNeAt.tuple_none (show s.heap.IsTuple _ its.toArray from p) hu
  | bl b=>cases (show u'=Value.bool _ from r2);exact SeqAt.RcNeAt.tuple_bool _ (show s.heap.IsTuple _ its.toArray from p) hu
  | int i=>obtain⟨t,rfl⟩:=r2;exact SeqAt.RcNeAt.tuple_int _ _ (show s.heap.IsTuple _ its.toArray from p) hu
  | str x=>obtain⟨t,rfl⟩:=r2;exact SeqAt.RcNeAt.tuple_str _ _ (show s.heap.IsTuple _ its.toArray from p) hu
  | @tup a' xs' ds' h' hs'=>
   cases (show u'=Value.ref a' from r2)
   ·obtain⟨its',rv',p',hz'⟩:=I.tuple h'
    have l1:its.toArray.size=ds.length:=by rw[Qk,<-rv.length,hs.length]
    have l2:its'.toArray.size=ds'.length:=by rw[Qk,<-rv'.length,hs'.length]
    have key:=SeqAt.RcNeAt.tuples (A:=A) (s:=s) (show s.heap.IsTuple a its.toArray from p) (show s.heap.IsTuple a' its'.toArray from p') hu
     (nG (A:=A.in1) (s:=s) hs hs' rv rv' fun d d' v v' u u' hm iv iv' r r'=>rc ds (.inl rfl) d d' v v' u u' hm iv iv' r r')
    rw[l1,l2,<-nF] at key;exact key
  | @lst a' xs' ds' h' hs'=>
   cases (show u'=Value.ref a' from r2)
   obtain⟨its',rv',p',hz'⟩:=I.list h';exact SeqAt.RcNeAt.tuple_list (show s.heap.IsTuple _ its.toArray from p) p'.isList hu
 | @lst a xs ds h hs=>
  cases (show u=Value.ref a from r1)
  obtain⟨its,rv,p,hz⟩:=I.list h
  cases h2 with
  | non=>cases (show u'=Value.none from r2);exact SeqAt.RcNeAt.list_none p.isList hu
  | bl b=>cases (show u'=Value.bool _ from r2);exact SeqAt.RcNeAt.list_bool _ p.isList hu
  | int i=>obtain⟨t,rfl⟩:=r2;exact SeqAt.RcNeAt.list_int _ _ p.isList hu
  | str x=>obtain⟨t,rfl⟩:=r2;exact SeqAt.RcNeAt.list_str _ _ p.isList hu
  | @tup a' xs' ds' h' hs'=>
   cases (show u'=Value.ref a' from r2)
   obtain⟨its',rv',p',hz'⟩:=I.tuple h';exact SeqAt.RcNeAt.list_tuple p.isList (show s.heap.IsTuple _ its'.toArray from p') hu
  | @lst a' xs' ds' h' hs'=>
   cases (show u'=Value.ref a' from r2)
   ·obtain⟨its',rv',p',hz'⟩:=I.list h'
    have l1:its.toArray.size=ds.length:=by rw[Qk,<-rv.length,hs.length]
    have l2:its'.toArray.size=ds'.length:=by rw[Qk,<-rv'.length,hs'.length]
    by_cases hl:ds.length=ds'.length
    ·have key:=SeqAt.RcNeAt.lists (A:=A) (s:=s) p.isList p'.isList (by rw[l1,l2,hl]) hu
      (nG (A:=A.in1) (s:=s) hs hs' rv rv' fun d d' v v' u u' hm iv iv' r r'=>rc ds (.inr rfl) d d' v v' u u' hm iv iv' r r')
     rw[l1,iQ hl] at key;exact key
    ·have key:=SeqAt.RcNeAt.lists_lengths (A:=A) (s:=s) p.isList p'.isList (by rw[l1,l2];simp[hl]) hu
     rw[eqD,zAA hl];exact key
theorem eqA{X:Cx}(hu:X.A.units+64 < cLine):OpR X (compareOp .Eq) (fun x y H Q=>∃ d d',IsD X.K H x d/\IsD X.K H y d'/\dep d<=50/\Q (.bl (eqD d d')) H):=by
 intro pins s σ H x y v u Q I rx ry h;obtain⟨d,d',h1,h2,hn,q⟩:=h;refine zIB I h1 h2 rx ry (by omega) (fun ds hd e e' w w' z z' hm i1 i2 q1 q2=>?_) X.prog X.w X.xe _ ⟨.bl _,H,I,rfl,q⟩
 refine zHd I 50 ?_ i1 i2 X.A.in1 z z' (by show X.A.units+1+50 < cLine;omega) q1 q2
 have:=vP hm
 rcases hd with rfl | rfl<;>(rw[dep] at hn;omega)
theorem neA{X:Cx}(hu:X.A.units+64 < cLine):OpR X (compareOp .NotEq) (fun x y H Q=>∃ d d',IsD X.K H x d/\IsD X.K H y d'/\dep d<=50/\Q (.bl (!eqD d d')) H):=by
 intro pins s σ H x y v u Q I rx ry h;obtain⟨d,d',h1,h2,hn,q⟩:=h;refine zHW I h1 h2 rx ry (by omega) (fun ds hd e e' w w' z z' hm i1 i2 q1 q2=>?_) X.prog X.w X.xe _ ⟨.bl _,H,I,rfl,q⟩
 refine zHd I 50 ?_ i1 i2 X.A.in1 z z' (by show X.A.units+1+50 < cLine;omega) q1 q2
 have:=vP hm
 rcases hd with rfl | rfl<;>(rw[dep] at hn;omega)
theorem sJ{X:Cx}:OpK X (fun x y H Q=>∃ d d',IsD X.K H x d/\IsD X.K H y d'/\dep d<=50/\Q (.bl (eqD d d')) H) oEq:=⟨fun a b c z=>(by
  unfold oEq at z;split at z<;>cases z),fun Hi H x y a b d Q s r1 r2 z q=>by
  unfold oEq at z;split at z
  ·rename_i h;cases z;exact⟨a,b,r1.mono s,r2.mono s,h,q _ Hi H (Ext.refl s) (.bl _)⟩
  ·cases z⟩
theorem zNC{X:Cx}:OpK X (fun x y H Q=>∃ d d',IsD X.K H x d/\IsD X.K H y d'/\dep d<=50/\Q (.bl (!eqD d d')) H) oNe:=⟨fun a b c z=>(by
  unfold oNe at z;split at z<;>cases z),fun Hi H x y a b d Q s r1 r2 z q=>by
  unfold oNe at z;split at z
  ·rename_i h;cases z;exact⟨a,b,r1.mono s,r2.mono s,h,q _ Hi H (Ext.refl s) (.bl _)⟩
  ·cases z⟩
open Classical in
def zND(K:PySem.W.Frag)(H:Hp)(dx:D)(u:Value):Bool:=if ∃ w d,IsD K H w d/\dE w u/\eqD d dx=true then true else false
theorem zGb(I:Inv X pins σ H s){dx d:D}{w:V}{u:Value}(h:IsD X.K H w d)(r:dE w u):zND X.K H dx u=eqD d dx:=by
 unfold zND;by_cases e:eqD d dx=true
 ·rw[if_pos ⟨w,d,h,r,e⟩,e]
 ·rw[if_neg]
  ·simpa using e
  ·rintro⟨w',d',h',r',e'⟩
   have:=r.inj r'
   subst this;have:=IsD.inj I h h'
   subst this;exact e e'
theorem zCK(I:Inv X pins σ H s){dx:D}:∀ {xs:List V} {ds:List D} {us:List Value},IsDs X.K H xs ds->dR xs us->us.any (zND X.K H dx)=ds.any fun d=>eqD d dx
 | _,_,_,.nil,.nil=>rfl
 | _,_,_,.cons h hs,.cons r t=>by rw[List.any_cons,List.any_cons,zGb I h r,zCK I hs t]
theorem zCz(I:Inv X pins σ H s){A:Around}{dx:D}{x:V}{ux:Value}(hx:IsD X.K H x dx)(rx:dE x ux)(hu:A.units+50 < cLine):∀ {xs:List V} {ds:List D} {us:List Value},IsDs X.K H xs ds->dR xs us->(∀ d∈ds,dep d<=50)->∀ u∈us,SeqAt.EqAt A s u ux (zND X.K H dx u)
 | _,_,_,.nil,.nil,_=>fun u hu=>by cases hu
 | _,_,_,.cons h hs,.cons r t,f=>fun u hm=>by
  rcases Qe.mp hm with rfl | hm
  ·rw[zGb I h r];exact zHd I 50 (f _ Qb) h hx A _ ux hu r rx
  ·exact zCz I hx rx hu hs t (fun d hd=>f d (Qc _ hd)) u hm
def zRr(K:PySem.W.Frag)(neg:Bool):R2:=fun x y H Q=>∃ d ds,IsD K H x d/\(IsD K H y (.lst ds)∨IsD K H y (.tup ds))/\depS ds<=50/\Q (.bl (if neg=true then !(ds.any fun e=>eqD e d) else ds.any fun e=>eqD e d)) H
theorem inA{X:Cx}(hu:X.A.units+64 < cLine):OpR X (compareOp .In) (zRr X.K false):=by
 intro pins s σ H x y v u Q I rx ry h;obtain⟨d,ds,h1,h2,hn,q⟩:=h;have hd:∀ e∈ds,dep e<=50:=fun e he=>QB (vP he) hn
 rcases h2 with h2 | h2
 ·obtain⟨a,xs,rfl,hl,hs⟩:=h2.lstI
  cases ry;obtain⟨its,rv,p,hz⟩:=I.list hl;refine SeqAt.in_listAt (zND X.K H d) p.isList (fun y hy=>zCz I h1 rx (by show X.A.units+1+50 < cLine;omega) hs rv hd y (by simpa using hy)) ?_
  exact⟨.bl _,H,I,by rw[List.any_toArray,zCK I hs rv];rfl,q⟩
 ·obtain⟨a,xs,rfl,hl,hs⟩:=h2.tupI
  cases ry;obtain⟨its,rv,p,hz⟩:=I.tuple hl;refine SeqAt.in_tupleAt (zND X.K H d) (show s.heap.IsTuple _ its.toArray from p) (fun y hy=>zCz I h1 rx (by show X.A.units+1+50 < cLine;omega) hs rv hd y (by simpa using hy)) ?_
  exact⟨.bl _,H,I,by rw[List.any_toArray,zCK I hs rv];rfl,q⟩
theorem zRl{X:Cx}:OpK X (zRr X.K false) oIn:=⟨fun a b c z=>(by
  cases b<;>first | cases z | (simp only[oIn] at z;split at z<;>cases z)),fun Hi H x y a b d Q s r1 r2 z q=>by
  cases b<;>first | cases z | skip
  ·rename_i ds
   simp only[oIn] at z;split at z
   ·rename_i h;cases z;exact⟨a,ds,r1.mono s,.inr (r2.mono s),h,q _ Hi H (Ext.refl s) (.bl _)⟩
   ·cases z
  ·rename_i ds
   simp only[oIn] at z;split at z
   ·rename_i h;cases z;exact⟨a,ds,r1.mono s,.inl (r2.mono s),h,q _ Hi H (Ext.refl s) (.bl _)⟩
   ·cases z⟩
end
end L3
namespace L3
open PySem PySem.Spec PyProof.Rows L2
unseal PEd PEf PTd PWd PAd PSd fO
section
variable{X:Cx}{G:Gx}{a b e:Expr}{es:List Expr}{pos p:Pos}{f g:Ev}{fs gs:Fv}{t u:Tv}{x:Str}{id T:String}
def vR(X:Cx)(r:List V->Hp->VK->Prop)(o:List D->Res D):Prop:=(∀ a c,o a≠.err c)/\∀(Hi H:Hp)(vs:List V)(ds:List D)(d:D)(Q:VK),Same Hi H->IsDs X.K Hi vs ds->o ds=.ok d->
 (∀ v Hi' H',Ext Hi H Hi' H'->IsD X.K Hi' v d->Q v H')->r vs H Q
theorem zOo{r:List V->Hp->VK->Prop}{o:List D->Res D}(k:vR X r o):∀ σ H Q,tD X G (eB o fs) σ H Q->tCB r (tAs X G fs) σ H Q:=fun σ H Q q=>by
 obtain⟨ρ,Hi,R,ou⟩:=q;refine zKo R ou fun vs ds Hi1 H1 e1 R1 r1 o1=>?_
 cases z:o ds with
 | no=>rw[z] at o1;exact o1.elim
 | err c=>exact absurd z (k.1 ds c)
 | ok d=>rw[z] at o1;exact k.2 Hi1 H1 vs ds d Q R1.s r1 z fun v Hi2 H2 e2 r2=>o1 Hi2 H2 e2 v r2
theorem aW{r:List V->Hp->VK->Prop}{o:List D->Res D}(hc:uO X (.builtin id) r)(k:vR X r o)(hg:Gl X x)(hm:X.mg x=none)(hv:bootBuiltins x=some (.builtin id))(ha:PAd X G (e::es) fs)(hn:x ≠ "__name__" := by decide)(hdb:(x==("__debug__" : Str))=false:=by decide)
  (he:starEach (e::es) X.env=(false,eval e X.env)::starEach es X.env:=by rfl) (hpl:(backTo pos (starEach es X.env)).any (·.1)=false:=by rfl):PEd X G (.Call (.Name x p) (e::es) [] pos) (eB o fs):=
 PE.wk (zEk hc hg hm hv ha hn hdb he hpl) (zOo k)
theorem oX{r:List V->Hp->VK->Prop}{o:List D->Res D}(hc:uO X (.type T) r)(k:vR X r o)(hg:Gl X x)(hm:X.mg x=none)(hv:bootBuiltins x=some (.type T))(ha:PAd X G (e::es) fs)(hn:x ≠ "__name__" := by decide)(hdb:(x==("__debug__" : Str))=false:=by decide)
  (he:starEach (e::es) X.env=(false,eval e X.env)::starEach es X.env:=by rfl) (hpl:(backTo pos (starEach es X.env)).any (·.1)=false:=by rfl):PEd X G (.Call (.Name x p) (e::es) [] pos) (eB o fs):=
 PE.wk (zGX hc hg hm hv ha hn hdb he hpl) (zOo k)
theorem IsDs.one{K:PySem.W.Frag}{H:Hp}{vs:List V}{d:D}(h:IsDs K H vs [d]):∃ v,vs=[v]/\IsD K H v d:=by
 cases h with
 | cons h t=>cases t;exact⟨_,rfl,h⟩
theorem IsDs.two{K:PySem.W.Frag}{H:Hp}{vs:List V}{d d':D}(h:IsDs K H vs [d,d']):∃ v w,vs=[v,w]/\IsD K H v d/\IsD K H w d':=by
 cases h with
 | cons h t=>obtain⟨w,rfl,hw⟩:=t.one;exact⟨_,w,rfl,h,hw⟩
theorem eO:vR X (fun xs H Q=>∃ p ys,xs=[.ref p]/\(SqL X.K H p ys∨SqT X.K H p ys)/\Q (.int ys.length) H) nQ:=⟨fun a c z=>(by
  unfold nQ at z;split at z<;>cases z),fun Hi H vs ds d Q s r z q=>by
  unfold nQ at z;split at z
  ·cases z
   obtain⟨v,rfl,h⟩:=r.one;obtain⟨a,xs,rfl,h1,h2⟩:=h.lstI;refine⟨a,xs,rfl,.inl (cY s h1),?_⟩
   rw[h2.length];exact q _ Hi H (Ext.refl s) (.int _)
  ·cases z
   obtain⟨v,rfl,h⟩:=r.one;obtain⟨a,xs,rfl,h1,h2⟩:=h.tupI;refine⟨a,xs,rfl,.inr (cQ s h1),?_⟩
   rw[h2.length];exact q _ Hi H (Ext.refl s) (.int _)
  ·cases z⟩
theorem zDN:vR X (fun xs H Q=>∃ i,xs=[.int i]/\Q (.int (if i < 0 then -i else i)) H) zLb:=⟨fun a c z=>(by
  unfold zLb at z;split at z<;>cases z),fun Hi H vs ds d Q s r z q=>by
  unfold zLb at z;split at z
  ·cases z
   obtain⟨v,rfl,h⟩:=r.one;exact⟨_,by rw[h.intI],q _ Hi H (Ext.refl s) (.int _)⟩
  ·cases z⟩
theorem zPz:vR X (fun xs H Q=>∃ i j,xs=[.int i,.int j]/\Q (.int (if j < i then j else i)) H) zOf:=⟨fun a c z=>(by
  unfold zOf at z;split at z<;>cases z),fun Hi H vs ds d Q s r z q=>by
  unfold zOf at z;split at z
  ·cases z
   obtain⟨v,w,rfl,h,h'⟩:=r.two;exact⟨_,_,by rw[h.intI,h'.intI],q _ Hi H (Ext.refl s) (.int _)⟩
  ·cases z⟩
theorem zHX:vR X (fun xs H Q=>∃ p ys,xs=[.ref p]/\((SqL X.K H p ys/\∀ l,H l=none->Q (.ref l) (upd H l (.tup ys)))∨(SqT X.K H p ys/\Q (.ref p) H))) zLk:=⟨fun a c z=>(by
  unfold zLk at z;split at z<;>cases z),fun Hi H vs ds d Q s r z q=>by
  unfold zLk at z;split at z
  ·cases z
   obtain⟨v,rfl,h⟩:=r.one;obtain⟨a,xs,rfl,h1,h2⟩:=h.lstI;exact⟨a,xs,rfl,.inl ⟨cY s h1,fun l hl=>q _ _ _ (Ext.new s hl) (.tup (SqT.of bB) (h2.mono (dB (s.none hl) _)))⟩⟩
  ·cases z
   obtain⟨v,rfl,h⟩:=r.one;obtain⟨a,xs,rfl,h1,h2⟩:=h.tupI;exact⟨a,xs,rfl,.inr ⟨cQ s h1,q _ Hi H (Ext.refl s) (.tup h1 h2)⟩⟩
  ·cases z⟩
variable{lo hi:Option Expr}{l h:Ov}{p2:Pos}
def tOv(X:Cx)(G:Gx)(f:Ov):TO:=fun σ H Q=>∃ ρ Hi,lN X G Hi H σ ρ/\Out G Hi H (f ρ) fun o _ H'=>Q o H'
@[irreducible] def POd (X:Cx) (G:Gx) (e:Option Expr) (f:Ov):Prop:=PO X e (tOv X G f)
unseal POd
theorem PO.wk{X:Cx}{e:Option Expr}{t t':TO}(h:PO X e t)(w:∀ σ H Q,t' σ H Q->t σ H Q):PO X e t':=fun pins s σ H Q I q=>h pins s σ H Q I (w σ H Q q)
theorem uP:POd X G none oN:=PO.wk zLz fun σ H Q q=>by
 obtain⟨ρ,Hi,R,ou⟩:=q;exact ou.here R.s
theorem kY(he:PEd X G e f):POd X G (some e) (oS f):=PO.wk (zNm he) fun σ H Q q=>by
 obtain⟨ρ,Hi,R,ou⟩:=q;refine zFb R ou fun v d Hi1 H1 e1 R1 r1 o1=>?_
 cases d with
 | int i=>exact⟨i,r1.intI,o1.here R1.s⟩
 | _=>exact o1.elim
theorem zRA{f:Ov}{Hi H:Hp}{σ:St}{ρ:Rho}{β:Type}{k:Option Int->Res β}{k':β->Hp->Hp->Prop}{Q:Option Int->Hp->Prop}(R:lN X G Hi H σ ρ)(o:Out G Hi H ((f ρ).bind k) k')
  (w:∀ c Hi' H',Ext Hi H Hi' H'->lN X G Hi' H' σ ρ->Out G Hi' H' (k c) k'->Q c H'):tOv X G f σ H Q:=
 ⟨ρ,Hi,R,o.bind.imp fun d Hi' H' e q=>w d Hi' H' e (R.grow e) q⟩
theorem zHh(n d:Nat)(i:Option Int):cut n i d=HT.sIx n d i:=by
 cases i with
 | none=>rfl
 | some i=>
  simp only[cut,HT.sIx];split<;>split<;>omega
theorem IsDs.cut{K:PySem.W.Frag}{H:Hp}{xs:List V}{ds:List D}(h:IsDs K H xs ds)(l r:Option Int):IsDs K H (zNF xs l r) (fW ds l r):=by
 unfold zNF fW;rw[zHh,zHh,h.length];exact(h.drop _).take _
theorem kR(he:PEd X G e f)(hl:POd X G lo l)(hu:POd X G hi h):PEf X G (.Subscript e (.Slice lo hi none p2) pos) (fSl f l h):=PE.wk (zKf zNs he hl hu) fun σ H Q q=>by
 obtain⟨ρ,Hi,R,ou⟩:=q;refine zFb R ou fun v d Hi1 H1 e1 R1 r1 o1=>?_
 refine zRA R1 o1 fun i Hi2 H2 e2 R2 o2=>?_
 refine zRA R2 o2 fun j Hi3 H3 e3 R3 o3=>?_
 cases d with
 | lst ds=>
  obtain⟨a,xs,rfl,h1,h2⟩:=r1.lstI;refine⟨a,xs,rfl,cY (e2.i.trans (e3.i.trans R3.s)) h1,fun p hp=>?_⟩
  exact o3 _ _ (Ext.newF R3.s hp) p ⟨(e1.h.trans (e2.h.trans e3.h)).none hp,R3.s.none hp,_,bB,(h2.cut i j).mono (e2.i.trans e3.i)⟩
 | _=>exact o3.elim
def zQf(K:PySem.W.Frag):R2:=fun x y H Q=>∃ l b xs zs,x=.ref l/\y=.ref b/\SqL K H l xs/\SqL K H b zs/\xs.length+zs.length<=sizeLine/\∀ p,H p=none->Q (.ref p) (upd H p (.lst (xs++zs)))
theorem zLM:OpR X (binaryOp .Add) (zQf X.K):=by
 intro pins s σ H x y v u Q I rx ry h;obtain⟨l,b,xs,zs,rfl,rfl,hl,hb,hz,q⟩:=h;cases rx;cases ry;obtain⟨its,r,p,_⟩:=I.list hl;obtain⟨its2,r2,p2,_⟩:=I.list hb;obtain⟨⟨cls,dd,data,sl⟩,ho,hc,n,hd⟩:=id p.isList;obtain⟨⟨cls2,dd2,data2,sl2⟩,ho2,hc2,n2,hd2⟩:=id p2.isList;simp only at hc hd hc2 hd2
 subst hc hd hc2 hd2;have hsz:its.toArray.size+its2.toArray.size<=sizeLine:=by rw[Qk,Qk,<-r.length,<-r2.length];exact hz
 have e:its.toArray++its2.toArray=(its++its2).toArray:=by simp
 refine concat_meets ⟨_,ho,rfl⟩ ⟨_,ho2,rfl⟩ noFill_list_add seq_list_add PySem.F.slot_list_add PySem.F.entry_list_add (PySem.F.args_list_add_2 _ _) (list_addW l b its.toArray its2.toArray n n2 dd dd2 sl sl2 hsz) ⟨ho,ho2,?_⟩
 rw[e];exact⟨.ref _,_,I.lnew (t':=s.toks) (r.append r2) (by rw[Ql];exact hz),rfl,q _ I.fresh⟩
theorem zHk(ha:PEd X G a f)(hb:PEd X G b g):PEf X G (.BinOp a .Add b pos) (zMu f g):=PE.wk (zIG zLM ha hb) fun σ H Q q=>by
 obtain⟨ρ,Hi,R,ou⟩:=q;refine zFb R ou fun v d Hi1 H1 e1 R1 r1 o1=>?_
 refine zFb R1 o1 fun w d' Hi2 H2 e2 R2 r2 o2=>?_
 cases d<;>first | exact o2.elim | skip
 cases d'<;>first | exact o2.elim | skip
 rename_i ds es
 obtain⟨a,xs,rfl,h1,h2⟩:=r1.lstI;obtain⟨b,ys,rfl,h3,h4⟩:=r2.lstI;have o2':Out G Hi2 H2 (if ds.length+es.length<=16777216 then Res.ok (ds++es) else .no) _:=o2;by_cases hz:ds.length+es.length<=16777216
 ·rw[if_pos hz] at o2'
  refine⟨a,b,xs,ys,rfl,rfl,cY (e2.i.trans e2.s) h1,cY e2.s h3,by rw[h2.length,h4.length];exact hz,fun p hp=>?_⟩
  exact o2' _ _ (Ext.newF e2.s hp) p ⟨(e1.h.trans e2.h).none hp,e2.s.none hp,_,bB,(h2.mono e2.i).append h4⟩
 ·rw[if_neg hz] at o2';exact o2'.elim
end
end L3
namespace L3
open PySem PySem.Spec PyProof.Rows L2
unseal PEd PEf PTd PWd PAd PSd fO POd
section
variable{X:Cx}{G:Gx}{a b e:Expr}{es:List Expr}{pos p:Pos}{f g:Ev}{fs gs:Fv}{t u:Tv}{x:Str}{st:Stmt}{rest:List Stmt}{sa sb:Sv}
theorem nN{Hi H:Hp}{σ:St}{ρ:Rho}{E:zCx}{α:Type}{r:Res α}{k:α->Res Fl}(R:lN X G Hi H σ ρ)(h:Fin X G Hi E (r.bind k)){Q:α->Hp->Hp->Prop}
  (w:∀ a Hi' H',r=.ok a->Ext Hi H Hi' H'->Fin X G Hi' E (k a)->Q a Hi' H'):Out G Hi H r Q:=by
 cases r with
 | no=>exact h
 | err c=>exact fun Hi' H' e=>h Hi' H' (R.ext.trans e)
 | ok a=>exact fun Hi' H' e=>w a Hi' H' rfl e (Fin.mono (show Fin X G Hi E (k a) from h) e.i)
theorem bO:fO X G [] sNext:=PSs.wk zLZ fun E σ H q=>by
 obtain⟨ρ,Hi,R,h⟩:=q;exact h σ Hi H (Same.refl _) R
theorem zOV{E:zCx}{Hi:Hp}{ρ:Rho}(h:Fin X G Hi E (bD sa sb ρ)):Fin X G Hi { E with nx:=tS X G sb E } (sa ρ):=by
 unfold bD at h
 cases z:sa ρ with
 | no=>rw[z] at h;exact h
 | err c=>rw[z] at h;exact h
 | ok fl=>
  rw[z] at h
  cases fl with
  | nx ρ'=>exact fun σ' Hi' H' s R'=>⟨ρ',Hi',R',Fin.mono (show Fin X G Hi E (sb ρ') from h) s⟩
  | brk ρ'=>exact h
  | ctn ρ'=>exact h
  | ret r=>cases r<;>exact h
theorem zOc{E:zCx}{σ:St}{H:Hp}(q:tS X G (bD sa sb) E σ H):tS X G sa { E with nx:=tS X G sb E } σ H:=by
 obtain⟨ρ,Hi,R,h⟩:=q;exact⟨ρ,Hi,R,zOV h⟩
theorem aG(h1:PSd X G st sa)(h2:fO X G rest sb):fO X G (st::rest) (bD sa sb):=PSs.wk (sX h1 h2) fun _ _ _ q=>zOc q
theorem aM(h1:PSd X G st sa):fO X G [st] sa:=zDJ h1
theorem mI(he:PEd X G e f)(hs:swapsWith e none pos.line X.env=pure false:=by rfl):PSd X G (.Expr e pos) (rC f):=PS.wk (xX he hs) fun E σ H q=>by
 obtain⟨ρ,Hi,R,h⟩:=q;exact⟨ρ,Hi,R,nN R h fun d Hi' H' _ e h' v r=>h' σ Hi' H' (Same.refl _) (R.grow e)⟩
theorem cH(he:PEd X G e f):PSd X G (.Return (some e) pos) (iA f):=PS.wk (zEV he) fun E σ H q=>by
 obtain⟨ρ,Hi,R,h⟩:=q;obtain⟨Hf,s1,R1,fl⟩:=R.frz;refine⟨ρ.map Sl.frz,Hf,R1,nN R1 (Fin.mono h s1) fun d Hi' H' _ e h' v r=>?_⟩
 exact h' v Hi' H' (R1.ext.trans e) r
theorem dX(he:PEf X G e fs):PSd X G (.Return (some e) pos) (hJ fs):=PS.wk (zEV he) fun E σ H q=>by
 obtain⟨ρ,Hi,R,h⟩:=q;obtain⟨Hf,s1,R1,fl⟩:=R.frz;refine⟨ρ.map Sl.frz,Hf,R1,nN R1 (Fin.mono h s1) fun ds Hi' H' _ e h' a n=>?_⟩
 obtain⟨n1,n2,xs,n3,n4⟩:=n;exact h' a Hi' H' (R1.ext.trans e) ⟨R1.ext.h.none n1,n2,xs,n3,n4⟩
theorem gM(i:Nat)(he:PE X e (zEc i)):PSd X G (.Return (some e) pos) (fT i):=PS.wk (zEV he) fun E σ H q=>by
 obtain⟨ρ,Hi,R,h⟩:=q;unfold fT at h
 cases z:ρ[i]? with
 | none=>rw[z] at h;exact h.elim
 | some s=>
  rw[z] at h
  cases s with
  | own ds=>
   obtain⟨a,xs,p,h1,h2,h3,h4⟩:=R.slot i _ z;exact⟨.ref a,p,h a Hi H R.ext ⟨h3,h2,xs,h1,h4⟩⟩
  | un=>exact h.elim
  | val d=>exact h.elim
  | exc c=>exact h.elim
  | tab T=>exact h.elim
theorem jD{c:Expr}{as bs:List Stmt}(hc:PTd X G c t)(ha:fO X G as sa)(hb:fO X G bs sb):PSd X G (.If c as bs pos) (sIf t sa sb):=PS.wk (zQv hc ha hb) fun E σ H q=>by
 obtain⟨ρ,Hi,R,h⟩:=q;refine⟨ρ,Hi,R,nN R h fun c Hi' H' _ e h'=>?_⟩
 cases c with
 | true=>exact⟨ρ,Hi',R.grow e,h'⟩
 | false=>exact⟨ρ,Hi',R.grow e,h'⟩
theorem bF{i:Nat}{pos':Pos}(hN:X.N.Nodup)(hi:X.N[i]?=some x)(hx:Loc X.env.scope x)(he:PEd X G e f)(hs:swapsWith e (some (.Name x pos')) pos.line X.env=pure false:=by rfl)
  (hf:X.fn x=true∨X.env.scope.names.lookup x=some .local:=by first | exact .inl rfl | exact .inr rfl | assumption):PSd X G (.Assign [.Name x pos'] e pos) (cX i f):=PS.wk (zKZ hN hi hx he hs hf) fun E σ H q=>by
 obtain⟨ρ,Hi,R,h⟩:=q;exact⟨ρ,Hi,R,nN R h fun d Hi' H' _ e h' v r=>h' _ Hi' H' (Same.refl _) ((R.grow e).set r)⟩
theorem qU{i:Nat}{pos':Pos}(hN:X.N.Nodup)(hi:X.N[i]?=some x)(hx:Loc X.env.scope x)(he:PEf X G e fs)(hs:swapsWith e (some (.Name x pos')) pos.line X.env=pure false:=by rfl)
  (hf:X.fn x=true∨X.env.scope.names.lookup x=some .local:=by first | exact .inl rfl | exact .inr rfl | assumption):PSd X G (.Assign [.Name x pos'] e pos) (zBQ i fs):=PS.wk (zKZ hN hi hx he hs hf) fun E σ H q=>by
 obtain⟨ρ,Hi,R,h⟩:=q;refine⟨ρ,Hi,R,nN R h fun ds Hi' H' _ e h' a n=>?_⟩
 obtain⟨n1,n2,xs,n3,n4⟩:=n;exact h' _ Hi' H' (Same.refl _) (R.setOwn e n1 n3 n2 n4)
theorem zAO{i:Nat}{o:Expr}{apos cpos:Pos}(ho:PE X o (zEc i))(he:PEd X G e f)
  (hbase:attributeBase o "append" X.env (eval o X.env)=eval o X.env:=by rfl)
  (hfew:((backTo cpos (starEach [e] X.env)).all (fun x=>!x.1) && (backToKw cpos (keywordEach [] X.env)).all (fun x=>x.1.isSome)
   && decide ([e].length+([]:List Keyword).length+(if ([]:List Keyword).isEmpty then 0 else 1) < 30))=true:=by rfl)
  (hline:(apos.endLine==cpos.line)=true:=by rfl) (hs:starEach [e] X.env=(false,eval e X.env)::starEach [] X.env:=by rfl)
  (hsw:swapsWith (.Call (.Attribute o "append" apos) [e] [] cpos) none pos.line X.env=pure false:=by rfl):
  PSd X G (.Expr (.Call (.Attribute o "append" apos) [e] [] cpos) pos) (zFX i f):=
 PS.wk (xX (zOj XX PySem.F.slot_list_append PySem.F.type_list_append vF ho (oE he uR hs) hbase hfew hline hs) hsw) fun E σ H q=>by
 obtain⟨ρ,Hi,R,h⟩:=q;unfold zFX at h
 cases z:ρ[i]? with
 | none=>rw[z] at h;exact h.elim
 | some s=>
  rw[z] at h
  cases s with
  | own ds=>
   obtain⟨a,xs,p,h1,h2,h3,h4⟩:=R.slot i _ z;refine⟨.ref a,p,.inl ⟨rfl,xs,SqL.of h1⟩,?_⟩
   refine⟨ρ,Hi,R,nN R h fun d Hi' H' _ e h' v r=>?_⟩
   have R':=R.grow e;obtain⟨g1,g2⟩:=e.out h1 h2;by_cases hz:ds.length < 16777216
   ·rw[if_pos hz] at h'
    refine⟨a,xs,v,rfl,rfl,g1,by rw[h4.length];exact hz,?_⟩
    exact h' σ Hi' _ (Same.refl _) (R'.write z p ((h4.mono e.i).append (.cons r .nil)))
   ·rw[if_neg hz] at h';exact h'.elim
  | un=>exact h.elim
  | val d=>exact h.elim
  | exc c=>exact h.elim
  | tab T=>exact h.elim
theorem zQD{i:Nat}{o:Expr}{apos cpos:Pos}(ho:PE X o (zEc i))
  (hbase:attributeBase o "pop" X.env (eval o X.env)=eval o X.env:=by rfl) (hline:(apos.endLine==cpos.line)=true:=by rfl)
  (hsw:swapsWith (.Call (.Attribute o "pop" apos) [] [] cpos) none pos.line X.env=pure false:=by rfl):
  PSd X G (.Expr (.Call (.Attribute o "pop" apos) [] [] cpos) pos) (zOe i):=
 PS.wk (xX (zPi XX PySem.F.slot_list_pop PySem.F.type_list_pop zOa ho hbase hline) hsw) fun E σ H q=>by
 obtain⟨ρ,Hi,R,h⟩:=q;unfold zOe at h
 cases z:ρ[i]? with
 | none=>rw[z] at h;exact h.elim
 | some s=>
  rw[z] at h
  cases s with
  | own ds=>
   obtain⟨a,xs,p,h1,h2,h3,h4⟩:=R.slot i _ z;refine⟨.ref a,p,.inl ⟨rfl,xs,SqL.of h1⟩,?_⟩
   have h:Fin X G Hi E (if ds.length=0 then Res.no else Res.ok (Fl.nx (ρ.set i (.own ds.dropLast)))):=h;by_cases hz:ds.length=0
   ·rw[if_pos hz] at h;exact h.elim
   ·rw[if_neg hz] at h
    have hl:=h4.length;refine⟨a,xs,xs[xs.length - 1]'(by omega),rfl,rfl,h1,Qn (by omega),?_⟩
    exact h σ Hi _ (Same.refl _) (R.write z p h4.dropLast)
  | un=>exact h.elim
  | val d=>exact h.elim
  | exc c=>exact h.elim
  | tab T=>exact h.elim
theorem zIb{i:Nat}{o:Expr}{apos cpos:Pos}(ho:PE X o (zEc i))(he:PEf X G e fs)
  (hbase:attributeBase o "extend" X.env (eval o X.env)=eval o X.env:=by rfl)
  (hfew:((backTo cpos (starEach [e] X.env)).all (fun x=>!x.1) && (backToKw cpos (keywordEach [] X.env)).all (fun x=>x.1.isSome)
   && decide ([e].length+([]:List Keyword).length+(if ([]:List Keyword).isEmpty then 0 else 1) < 30))=true:=by rfl)
  (hline:(apos.endLine==cpos.line)=true:=by rfl) (hs:starEach [e] X.env=(false,eval e X.env)::starEach [] X.env:=by rfl)
  (hsw:swapsWith (.Call (.Attribute o "extend" apos) [e] [] cpos) none pos.line X.env=pure false:=by rfl):
  PSd X G (.Expr (.Call (.Attribute o "extend" apos) [e] [] cpos) pos) (zJA i fs):=
 PS.wk (xX (zOj XX PySem.F.slot_list_extend PySem.F.type_list_extend zIc ho (oE he uR hs) hbase hfew hline hs) hsw) fun E σ H q=>by
 obtain⟨ρ,Hi,R,h⟩:=q;unfold zJA at h
 cases z:ρ[i]? with
 | none=>rw[z] at h;exact h.elim
 | some s=>
  rw[z] at h
  cases s with
  | own ds=>
   obtain⟨a,xs,p,h1,h2,h3,h4⟩:=R.slot i _ z;refine⟨.ref a,p,.inl ⟨rfl,xs,SqL.of h1⟩,?_⟩
   refine⟨ρ,Hi,R,nN R h fun es Hi' H' _ e h' b n=>?_⟩
   obtain⟨n1,n2,ys,n3,n4⟩:=n;have R':=R.grow e;obtain⟨g1,g2⟩:=e.out h1 h2;by_cases hz:ds.length+es.length<=16777216
   ·rw[if_pos hz] at h'
    refine⟨a,b,xs,ys,rfl,rfl,g1,n3,by rw[h4.length,n4.length];exact hz,?_⟩
    exact h' σ Hi' _ (Same.refl _) (R'.write z p ((h4.mono e.i).append n4))
   ·rw[if_neg hz] at h';exact h'.elim
  | un=>exact h.elim
  | val d=>exact h.elim
  | exc c=>exact h.elim
  | tab T=>exact h.elim
theorem zQs{i:Nat}{o k:Expr}{fk:Ev}{tpos:Pos}(ho:PE X o (zEc i))(hk:PEd X G k fk)(he:PEd X G e f)(hs:swapsWithSole [.Subscript o k tpos] e pos.line X.env=pure false:=by rfl)(hw:swappedStores [.Subscript o k tpos] e X.env=pure none:=by rfl)
  (h1:(assignEach [.Subscript o k tpos] X.env).map (·.2)=[assign (.Subscript o k tpos) X.env]:=by rfl)
  (ha:∀ v,assign (.Subscript o k tpos) X.env v=(do
   let ov <-holding [v] (eval o X.env)
   let iv <-holding [v,ov] (eval k X.env)
   standAt tpos
   holding [v,ov,iv] (setItem ov iv v)
   release [v,ov,iv] []):=by intro _;rfl):PSd X G (.Assign [.Subscript o k tpos] e pos) (zPR i fk f):=
 PS.wk (zPq he (zOK ho hk zJN ha) hs hw h1) fun E σ H q=>by
 obtain⟨ρ,Hi,R,h⟩:=q;refine⟨ρ,Hi,R,nN R h fun d Hi1 H1 _ e1 h1 v r=>?_⟩
 have R1:=R.grow e1
 cases z:ρ[i]? with
 | none=>rw[z] at h1;exact h1.elim
 | some s=>
  rw[z] at h1
  cases s with
  | own ds=>
   obtain⟨a,xs,p,g1,g2,g3,g4⟩:=R1.slot i _ z;refine⟨.ref a,p,?_⟩
   refine⟨ρ,Hi1,R1,nN R1 h1 fun j Hi2 H2 _ e2 h2 w rw'=>?_⟩
   have R2:=R1.grow e2;obtain⟨k1,k2⟩:=e2.out g1 g2
   cases j with
   | int j=>
    have hl:=g4.length;have h2':Fin X G Hi2 E (if 0<=j/\j < ds.length then Res.ok (.nx (ρ.set i (.own (ds.set j.toNat d)))) else if -(ds.length:Int)<=j/\j < 0 then .ok (.nx (ρ.set i (.own (ds.set (j+ds.length).toNat d)))) else .no):=h2;by_cases c1:0<=j/\j < ds.length
    ·rw[if_pos c1] at h2'
     refine⟨a,xs,j,j.toNat,rfl,rw'.intI,k1,by unfold ixN;rw[if_pos c1.1,if_pos (by omega)],?_⟩
     exact h2' σ Hi2 _ (Same.refl _) (R2.write z p ((g4.mono e2.i).set (r.mono e2.i) j.toNat))
    ·rw[if_neg c1] at h2'
     by_cases c2:-(ds.length:Int)<=j/\j < 0
     ·rw[if_pos c2] at h2'
      refine⟨a,xs,j,(j+ds.length).toNat,rfl,rw'.intI,k1,by unfold ixN;rw[if_neg (by omega),if_pos (by omega),hl],?_⟩
      exact h2' σ Hi2 _ (Same.refl _) (R2.write z p ((g4.mono e2.i).set (r.mono e2.i) (j+ds.length).toNat))
     ·rw[if_neg c2] at h2';exact h2'.elim
   | _=>exact h2.elim
  | un=>exact h1.elim
  | val d=>exact h1.elim
  | exc c=>exact h1.elim
  | tab T=>exact h1.elim
theorem zFh{i:Nat}{op:Operator}{o:Op2}{r:Int->Int->Int}{pos':Pos}(hN:X.N.Nodup)(hi:X.N[i]?=some x)(hx:Loc X.env.scope x)(he:PEd X G e f)(ho:PIp X op (ipI r))(hr:∀ a b d,o a b=.ok d->∃ i j,a=.int i/\b=.int j/\d=.int (r i j))(hn:∀ a b c,o a b≠.err c)
  (hf:X.fn x=true∨X.env.scope.names.lookup x=some .local:=by first | exact .inl rfl | exact .inr rfl | assumption):PSd X G (.AugAssign (.Name x pos') op e pos) (zIX i o f):=PS.wk (zOw hN hi hx he ho hf) fun E σ H q=>by
 obtain⟨ρ,Hi,R,h⟩:=q;unfold zIX at h
 cases z:ρ[i]? with
 | none=>rw[z] at h;exact h.elim
 | some s=>
  rw[z] at h
  cases s with
  | val d=>
   obtain⟨v,p,rv⟩:=R.slot i _ z;refine⟨v,p,ρ,Hi,R,nN R h fun d' Hi' H' _ e h' w rw'=>?_⟩
   cases q:o d d' with
   | no=>rw[q] at h';exact h'.elim
   | err c=>exact absurd q (hn _ _ _)
   | ok u=>
    rw[q] at h';obtain⟨i',j',rfl,rfl,rfl⟩:=hr _ _ _ q;exact⟨i',j',rv.intI,rw'.intI,h' _ Hi' H' (Same.refl _) ((R.grow e).set (.int _))⟩
  | un=>exact h.elim
  | own ds=>exact h.elim
  | exc c=>exact h.elim
  | tab T=>exact h.elim
theorem fO.frzAt(i:Nat){sts:List Stmt}(h:fO X G sts sa):fO X G sts (sFrzAt i sa):=PSs.wk h fun E σ H q=>by
 obtain⟨ρ,Hi,R,h⟩:=q;obtain⟨Hi',s,R'⟩:=R.frzAt (i:=i);exact⟨_,Hi',R',Fin.mono h s⟩
def tGv(X:Cx)(G:Gx)(g:Gv):TG:=fun v σ H Q=>∃ d ρ Hi,IsD X.K Hi v d/\lN X G Hi H σ ρ/\∃ ρ',g d ρ=.ok ρ'/\∀ σ' Hi' H',Same Hi Hi'->lN X G Hi' H' σ' ρ'->Q σ' H'
@[irreducible] def PGd (X:Cx) (G:Gx) (e:Expr) (g:Gv):Prop:=PG X e (tGv X G g)
unseal PGd
theorem eR{i:Nat}(hN:X.N.Nodup)(hi:X.N[i]?=some x)(hx:Loc X.env.scope x)(hf:X.fn x=true∨X.env.scope.names.lookup x=some .local:=by first | exact .inl rfl | exact .inr rfl | assumption):PGd X G (.Name x pos) (gName i):=
 fun pins s σ H v u Q I r q=>zDk hN hi hx hf pins s σ H v u Q I r (by
  obtain⟨d,ρ,Hi,rd,R,ρ',e,k⟩:=q;cases e
  exact k _ Hi H (Same.refl _) (R.set rd))
def zRK(X:Cx)(G:Gx)(g:List D->Rho->Res Rho):TGs:=fun vs σ H Q=>∃ ds ρ Hi,IsDs X.K Hi vs ds/\lN X G Hi H σ ρ/\∃ ρ',g ds ρ=.ok ρ'/\∀ σ' Hi' H',Same Hi Hi'->lN X G Hi' H' σ' ρ'->Q σ' H'
@[irreducible] def jJ (X:Cx) (G:Gx) (es:List Expr) (g:List D->Rho->Res Rho):Prop:=PGs X es (zRK X G g)
unseal jJ
theorem zKB:jJ X G [] zIA:=fun pins s σ H vs us Q I r q=>zGC pins s σ H vs us Q I r (by
  obtain⟨ds,ρ,Hi,rd,R,ρ',e,k⟩:=q
  cases ds with
  | nil=>cases rd;cases e;exact⟨rfl,k _ Hi H (Same.refl _) R⟩
  | cons d ds=>cases e)
theorem zAv{g:Gv}{r:List D->Rho->Res Rho}(h1:PGd X G e g)(h2:jJ X G es r)(hs:(assignEach (e::es) X.env).map (·.2)=assign e X.env::(assignEach es X.env).map (·.2):=by rfl):jJ X G (e::es) (nM g r):=
 fun pins s σ H vs us Q I rr q=>yC h1 h2 hs pins s σ H vs us Q I rr (by
  obtain⟨ds,ρ,Hi,rd,R,ρ',e,k⟩:=q
  cases ds with
  | nil=>cases e
  | cons d ds=>
   cases rd with
   | cons rd rds=>
    refine⟨_,_,rfl,d,ρ,Hi,rd,R,?_⟩
    have e':(g d ρ).bind (fun ρ'=>r ds ρ')=.ok ρ':=e
    cases z:g d ρ with
    | no=>rw[z] at e';cases e'
    | err c=>rw[z] at e';cases e'
    | ok ρ1=>
     rw[z] at e'
     exact⟨ρ1,rfl,fun σ1 Hi1 H1 s1 R1=>⟨ds,ρ1,Hi1,rds.mono s1,R1,ρ',e',fun σ2 Hi2 H2 s2 R2=>k σ2 Hi2 H2 (s1.trans s2) R2⟩⟩)
theorem zPr{k:Nat}{r:List D->Rho->Res Rho}{n:Nat}(hc:X.calm=true)(h:jJ X G es r)(hr:∀ ds ρ ρ',r ds ρ=.ok ρ'->ds.length=n)(hn:(assignEach es X.env).length=n:=by rfl)(hst:(assignEach es X.env).findIdx? (·.1)=none:=by rfl):PGd X G (.Tuple es k pos) (zHv r):=
 fun pins s σ H v u Q I rr q=>zKz hc h hn hst pins s σ H v u Q I rr (by
  obtain⟨d,ρ,Hi,rd,R,ρ',e,kk⟩:=q
  cases d with
  | tup ds=>
   obtain⟨a,xs,rfl,h1,h2⟩:=rd.tupI;exact⟨a,xs,rfl,cQ R.s h1,by rw[h2.length];exact hr ds ρ ρ' e,ds,ρ,Hi,h2,R,ρ',e,kk⟩
  | _=>cases e)
def wK(K:PySem.W.Frag)(Hi:Hp)(J:It)(ds:List D):Prop:=∀(Hi1 H1:Hp),Same Hi Hi1->Same Hi1 H1->∀ i,
 (ds.length<=i->J.stop i H1)/\∀ d,ds[i]?=some d->J.go i H1/\∀ x H2,J.yld i H1 x H2->∃ Hi2,Ext Hi1 H1 Hi2 H2/\IsD K Hi2 x d
def tIv(X:Cx)(G:Gx)(f:Fv):TI:=fun σ H R=>∃ ρ Hi,lN X G Hi H σ ρ/\Out G Hi H (f ρ) fun ds Hi' H'=>∀ J,wK X.K Hi' J ds->R J H'
@[irreducible] def PId (X:Cx) (G:Gx) (tg e:Expr) (f:Fv):Prop:=PI X tg e (tIv X G f)
unseal PId
theorem PI.wk{tg:Expr}{t t':TI}(h:PI X tg e t)(w:∀ σ H Q,t' σ H Q->t σ H Q):PI X tg e t':=fun pins s σ H Q I q=>h pins s σ H Q I (w σ H Q q)
theorem zLv{g:Gv}{J:It}{ds:List D}{Hi1 H1:Hp}{σ:St}{ρ:Rho}{E:zCx}(hge:∀ d ρ c,g d ρ≠.err c)(R1:lN X G Hi1 H1 σ ρ)(h1:Fin X G Hi1 E (gO g sa ds ρ))(gv:wK X.K Hi1 J ds):zRn (fun _ _ R=>R J H1) (tGv X G g) (tS X G sa) E σ H1:=by
 refine⟨fun i m σ' H'=>m=ds.length - i/\∃ ρ' Hi',Same Hi1 Hi'/\lN X G Hi' H' σ' ρ'/\Fin X G Hi' E (gO g sa (ds.drop i) ρ'),⟨_,rfl,ρ,Hi1,Same.refl _,R1,h1⟩,?_⟩
 rintro i m σ' H' ⟨rfl,ρ',Hi',s',R',h'⟩
 obtain⟨w1,w2⟩:=gv Hi' H' s' R'.s i;by_cases hl:i < ds.length
 ·obtain⟨d,hd⟩:∃ d,ds[i]?=some d:=⟨_,Qn hl⟩
  obtain⟨go,yl⟩:=w2 d hd
  have e3:ds.drop i=d::ds.drop (i+1):=by
   rw[Qn hl] at hd;cases hd;exact XY hl
  rw[e3] at h';refine .inr ⟨go,fun σ2 H2=>∃ ρ2 Hi2,Same Hi1 Hi2/\lN X G Hi2 H2 σ2 ρ2/\Fin X G Hi2 E (gO g sa (ds.drop (i+1)) ρ2),fun σ2 H2 z=>⟨ds.length - (i+1),by omega,rfl,z⟩,fun x H2 y=>?_⟩
  obtain⟨Hi2,e2,r2⟩:=yl x H2 y;have R2:=R'.grow e2
  have h2:Fin X G Hi2 E ((g d ρ').bind fun ρ1=>(sa ρ1).bind fun f=>match f with
   | .nx ρ2=>gO g sa (ds.drop (i+1)) ρ2
   | .ctn ρ2=>gO g sa (ds.drop (i+1)) ρ2
   | .brk ρ2=>.ok (.nx ρ2)
   | .ret r=>.ok (.ret r)):=Fin.mono h' e2.i
  cases z:g d ρ' with
  | no=>rw[z] at h2;exact h2.elim
  | err c=>exact absurd z (hge _ _ _)
  | ok ρ1=>
   rw[z] at h2;refine⟨d,ρ',Hi2,r2,R2,ρ1,z,fun σ3 Hi3 H3 s3 R3=>⟨ρ1,Hi3,R3,?_⟩⟩
   have h3:=Fin.mono h2 s3;have sm:Same Hi1 Hi3:=(s'.trans e2.i).trans s3;simp only[Res.bind] at h3
   cases zb:sa ρ1 with
   | no=>rw[zb] at h3;exact h3.elim
   | err c=>rw[zb] at h3;exact h3
   | ok fl=>
    rw[zb] at h3
    cases fl with
    | nx ρ2=>exact fun σ4 Hi4 H4 s4 R4=>⟨ρ2,Hi4,sm.trans s4,R4,Fin.mono (show Fin X G Hi3 E (gO g sa (ds.drop (i+1)) ρ2) from h3) s4⟩
    | ctn ρ2=>exact fun σ4 Hi4 H4 s4 R4=>⟨ρ2,Hi4,sm.trans s4,R4,Fin.mono (show Fin X G Hi3 E (gO g sa (ds.drop (i+1)) ρ2) from h3) s4⟩
    | brk ρ2=>exact h3
    | ret r=>cases r<;>exact h3
 ·rw[Xc (by omega)] at h'
  exact .inl ⟨w1 (by omega),h' σ' Hi' H' (Same.refl _) R'⟩
theorem mO{tg iter:Expr}{body:List Stmt}{it:Fv}{g:Gv}(hp:PassesOwn (model X.prog X.w) X.A X.env X.xe)(hc:X.calm=true)(hi:PId X G tg iter it)(hg:PGd X G tg g)(hge:∀ d ρ c,g d ρ≠.err c)(hb:fO X G body sa)
  (hs:∀ x,foldedSetIterable iter X.env x=pure x:=by intro _;rfl):PSd X G (.For tg iter body [] pos) (zG it g sa):=PS.wk (zLa hp hc hi hg hb hs) fun E σ H q=>by
 obtain⟨ρ,Hi,R,h⟩:=q;exact⟨ρ,Hi,R,nN R h fun ds Hi1 H1 _ e1 h1 J gv=>zLv hge (R.grow e1) h1 gv⟩
theorem zAd{c:Expr}{body:List Stmt}(hp:PassesOwn (model X.prog X.w) X.A X.env X.xe)(hc:PTd X G c t)(hb:fO X G body sa):PSd X G (.While c body [] pos) (eQ t sa):=PS.wk (zJS hp hc hb) fun E σ H q=>by
 obtain⟨ρ,Hi,R,h⟩:=q;have hn:eQ t sa ρ≠.no:=fun z=>by rw[z] at h;exact h
 obtain⟨n,en⟩:=oJ hn;rw[en] at h;refine⟨fun m σ' H'=>∃ ρ' Hi',Same Hi Hi'/\lN X G Hi' H' σ' ρ'/\Fin X G Hi' E (wh t sa m ρ'),⟨n,ρ,Hi,Same.refl _,R,h⟩,?_⟩
 rintro m σ' H' ⟨ρ',Hi',s',R',h'⟩
 cases m with
 | zero=>exact h'.elim
 | succ m=>
  rw[wh] at h';refine⟨ρ',Hi',R',nN R' h' fun c Hi1 H1 _ e1 h1=>?_⟩
  have R1:=R'.grow e1
  cases c with
  | false=>exact h1 σ' Hi1 H1 (Same.refl _) R1
  | true=>
   refine⟨fun σ2 H2=>∃ ρ2 Hi2,Same Hi Hi2/\lN X G Hi2 H2 σ2 ρ2/\Fin X G Hi2 E (wh t sa m ρ2),fun σ2 H2 z=>⟨m,by omega,z⟩,ρ',Hi1,R1,?_⟩
   have sm:Same Hi Hi1:=s'.trans e1.i;simp only[if_true] at h1
   cases zb:sa ρ' with
   | no=>rw[zb] at h1;exact h1.elim
   | err c=>rw[zb] at h1;exact h1
   | ok fl=>
    rw[zb] at h1
    cases fl with
    | nx ρ2=>exact fun σ4 Hi4 H4 s4 R4=>⟨ρ2,Hi4,sm.trans s4,R4,Fin.mono (show Fin X G Hi1 E (wh t sa m ρ2) from h1) s4⟩
    | ctn ρ2=>exact fun σ4 Hi4 H4 s4 R4=>⟨ρ2,Hi4,sm.trans s4,R4,Fin.mono (show Fin X G Hi1 E (wh t sa m ρ2) from h1) s4⟩
    | brk ρ2=>exact h1
    | ret r=>cases r<;>exact h1
theorem zGf{K:PySem.W.Frag}{Hi:Hp}{a:Addr}{xs:List V}{ds:List D}(h:SqT K Hi a xs)(hs:IsDs K Hi xs ds):wK K Hi (Itt K a) ds:=fun Hi1 H1 s1 s2 i=>by
 have h1:=cQ (s1.trans s2) h;refine⟨fun hl=>⟨xs,h1,by rw[hs.length];exact hl⟩,fun d hd=>?_⟩
 obtain⟨v,hv,r⟩:=hs.at hd;refine⟨⟨xs,v,h1,hv⟩,fun x H2 y=>?_⟩
 obtain⟨e,y⟩:=y;subst e;have:=y xs h1
 rw[hv] at this;cases this;exact⟨Hi1,Ext.refl s2,r.mono s1⟩
theorem zNd{lo c:Int}{n i:Nat}{d:D}(h:(rng lo n c)[i]?=some d):i < n/\d=.int (lo+(i:Int) * c):=by
 unfold rng at h;rw[Qt] at h;by_cases hl:i < n
 ·rw[Vb hl] at h;cases h;exact⟨hl,rfl⟩
 ·rw[QC (by rw[QA];omega)] at h;cases h
theorem zLB(lo c:Int)(n:Nat):(rng lo n c).length=n:=by unfold rng;rw[Qg,QA]
theorem zBi{K:PySem.W.Frag}{Hi:Hp}(lo:Int)(n:Nat):wK K Hi (Itr lo n) (rng lo n 1):=fun Hi1 H1 s1 s2 i=>by
 refine⟨fun hl=>by rw[zLB] at hl;exact hl,fun d hd=>?_⟩
 obtain⟨h1,rfl⟩:=zNd hd;refine⟨h1,fun x H2 y=>?_⟩
 obtain⟨e,y⟩:=y;subst e y;rw[QY];exact⟨Hi1,Ext.refl s2,.int _⟩
theorem zEQ{tg:Expr}(hg:Gl X "range")(hm:X.mg "range" = none)(ha:PAd X G [a] fs)(hs:starEach [a] X.env=[(false,eval a X.env)]:=by rfl):PId X G tg (.Call (.Name "range" p) [a] [] pos) (zCk fs):=PI.wk (zGK hg hm ha hs) fun σ H Q q=>by
 obtain⟨ρ,Hi,R,ou⟩:=q;refine zKo R ou fun vs ds Hi1 H1 e1 R1 r1 o1=>?_
 split at o1
 ·rename_i j
  obtain⟨v,rfl,h⟩:=r1.one;by_cases hz:-(2^62)<=j/\j < 2^62
  ·rw[if_pos hz] at o1
   exact⟨j,by rw[h.intI],hz.1,hz.2,o1.here R1.s _ (zBi 0 j.toNat)⟩
  ·rw[if_neg hz] at o1;exact o1.elim
 ·exact o1.elim
theorem zPy{tg:Expr}(hg:Gl X "range")(hm:X.mg "range" = none)(ha:PAd X G [a,b] fs)(hs:starEach [a,b] X.env=[(false,eval a X.env),(false,eval b X.env)]:=by rfl)(hs2:starEach [b] X.env=[(false,eval b X.env)]:=by rfl):PId X G tg (.Call (.Name "range" p) [a,b] [] pos) (zHH fs):=PI.wk (zHF hg hm ha hs hs2) fun σ H Q q=>by
 obtain⟨ρ,Hi,R,ou⟩:=q;refine zKo R ou fun vs ds Hi1 H1 e1 R1 r1 o1=>?_
 split at o1
 ·rename_i i j
  obtain⟨v,w,rfl,h,h'⟩:=r1.two;by_cases hz:-(2^62)<=i/\i < 2^62/\-(2^62)<=j/\j < 2^62
  ·rw[if_pos hz] at o1
   exact⟨i,j,by rw[h.intI,h'.intI],hz,o1.here R1.s _ (zBi i (j - i).toNat)⟩
  ·rw[if_neg hz] at o1;exact o1.elim
 ·exact o1.elim
end
end L3
namespace L3
open PySem PySem.Spec PyProof.Rows L2
unseal PEd PEf PTd PWd PAd PSd fO POd PGd jJ PId
structure Fn (K:PySem.W.Frag) (mg:Str->Option Value) (x:Str) (st:Stmt) (ps:List Str) (f:Addr) (fd:FuncData):Prop where
 fn:Fun K x x st f fd
 bd:zCi K fd ps []
 kp:PySem.W.keepIn K (.ref f)=true
 mg:mg x=some (.ref f)
def XE(X:Cx)(G:Gx):XK:=fun cls _ H=>∃ c,X.mg c=some cls/\G.E c H
def pL(K:PySem.W.Frag)(mg:Str->Option Value)(P:Addr):Prop:=∃ f oc od fd osl c,mg "ranked" = some (.ref f)/\K.lookup f=some ⟨oc,od,.func fd,osl⟩/\fd.code=.ref c/\∀ h,K.In h->PySem.W.CodeHd h c P
def TB(K:PySem.W.Frag)(mg:Str->Option Value)(Hi H:Hp):Prop:=∀ P,pL K mg P->zBF P H/\Hi P=none
theorem TB.ext{K:PySem.W.Frag}{mg:Str->Option Value}{Hi H Hi' H':Hp}(t:TB K mg Hi H)(e:Ext Hi H Hi' H'):TB K mg Hi' H':=fun P h=>⟨e.h.t P (t P h).1,by
 cases z:Hi' P with
 | none=>rfl
 | some o=>
  obtain⟨⟨ps,q,_⟩,n⟩:=t P h;have:=e.n P n (by rw[z];exact fun w=>by cases w)
  rw[q] at this;cases this⟩
structure Good (X:Cx) (G:Gx) (k:Nat):Prop where
 calm:X.calm=true
 room:Room k X.A
 pass:zEM (CX1 X.prog X.w) X (XE X G)
 own:PassesOwn (model X.prog X.w) X.A X.env X.xe
 tb:TB X.K X.mg G.Bi G.B
def zHE(X:Cx)(G:Gx):Prop:=∀(pins:List (Addr×Obj))(σ:St)(H:Hp)(s s':Shared)(ea:Addr)(cls:Value)(vs:List Value),Inv X pins σ H s->Heap.MadeExcOf s.heap s'.heap ea cls vs->s'.os=s.os->AllBare s'.gens->XE X G cls none H->X.xe (.ref ea) s'
def spM(K:PySem.W.Frag)(mg:Str->Option Value)(p:Nat)(m:Mir):Sp:=fun vs H Q E=>vs.length=p/\∃ Bi ds,TB K mg Bi H/\Same Bi H/\IsDs K Bi vs ds/\match m ds with
 | .ok (.v d)=>∀ v Hi' H',Ext Bi H Hi' H'->IsD K Hi' v d->Q v H'
 | .ok (.f es)=>∀ a Hi' H',Ext Bi H Hi' H'->zJJ K H Hi' H' a es->Q (.ref a) H'
 | .err c=>∀ C,mg c=some C->∀ Hi' H',Ext Bi H Hi' H'->E C none H'
 | .no=>False
structure CanM (P:Program) (w:World) (K:PySem.W.Frag) (mg:Str->Option Value) (base:Heap) (k:Nat) (x:Str) (ps:List Str) (m:Mir):Prop where
 ex:∃ f fd,FnOk P w K mg base (CX1 P w) k f fd ps (spM K mg ps.length m)/\zCi K fd ps []/\PySem.W.keepIn K (.ref f)=true/\mg x=some (.ref f)
 ln:∀ ds,m ds≠.no->ds.length=ps.length
theorem Good.u{X:Cx}{G:Gx}{k:Nat}(W:Good X G k):X.A.units+64 < cLine:=W.room.units
theorem CanM.mono{P:Program}{w:World}{K:PySem.W.Frag}{mg:Str->Option Value}{base:Heap}{j k:Nat}{x:Str}{ps:List Str}{m:Mir}(c:CanM P w K mg base j x ps m)(h:j<=k):CanM P w K mg base k x ps m:=by
 obtain⟨⟨f,fd,F,r⟩,l⟩:=c;exact⟨⟨f,fd,F.mono h,r⟩,l⟩
section
variable{X:Cx}{G:Gx}{a b e:Expr}{es:List Expr}{pos p:Pos}{f g:Ev}{fs gs:Fv}{t u:Tv}{x:Str}{st:Stmt}{rest:List Stmt}{sa sb:Sv}{k:Nat}{ps:List Str}{m:Mir}
theorem zPf{ps:List Str}(tb:TB X.K X.mg G.Bi G.B)(ln:∀ ds,m ds≠.no->ds.length=ps.length):∀ σ H Q,tD X G (aP m fs) σ H Q->zMr (spM X.K X.mg ps.length m) [] (XE X G) (tAs X G fs) σ H Q:=fun σ H Q q=>by
 obtain⟨ρ,Hi,R,ou⟩:=q;refine zKo R ou fun vs ds Hi1 H1 e1 R1 r1 o1=>?_
 rw[QS];have hm:m ds≠.no:=fun z=>by rw[z] at o1;exact o1
 refine⟨by rw[r1.length];exact ln ds hm,Hi1,ds,tb.ext R1.ext,R1.s,r1,?_⟩
 cases z:m ds with
 | no=>exact absurd z hm
 | err c=>rw[z] at o1;exact fun C hC Hi2 H2 e2=>⟨c,hC,o1 Hi2 H2 e2⟩
 | ok r=>
  rw[z] at o1
  cases r with
  | v d=>exact fun v Hi2 H2 e2 r2=>o1 Hi2 H2 e2 v r2
  | f ds=>
   intro a Hi2 H2 e2 n;obtain⟨n1,n2,xs,n3,n4⟩:=n;exact o1 _ _ (e2.hold n1 n3 n2) (.ref a) (.lst (SqL.of bB) (n4.mono (dB n2 _)))
theorem aK(W:Good X G k)(c:CanM X.prog X.w X.K X.mg X.base k x ps m)(hg:Gl X x)(ha:PAd X G (e::es) fs)
  (hdb:(x==("__debug__" : Str))=false:=by decide) (he:starEach (e::es) X.env=(false,eval e X.env)::starEach es X.env:=by rfl) (hpl:(backTo pos (starEach es X.env)).any (·.1)=false:=by rfl):
  PEd X G (.Call (.Name x p) (e::es) [] pos) (aP m fs):=by
 obtain⟨⟨f,fd,F,b,kp,hm⟩,ln⟩:=c;exact PE.wk (zCU F W.room hg hm kp b .nil W.pass ha hdb he hpl) (zPf W.tb ln)
theorem zLJ{ps:List Str}(tb:TB X.K X.mg G.Bi G.B)(ln:∀ ds,m ds≠.no->ds.length=ps.length):∀ σ H Q,tF X G (dC m fs) σ H Q->zMr (spM X.K X.mg ps.length m) [] (XE X G) (tAs X G fs) σ H Q:=fun σ H Q q=>by
 obtain⟨ρ,Hi,R,ou⟩:=q;refine zKo R ou fun vs ds Hi1 H1 e1 R1 r1 o1=>?_
 rw[QS];have hm:m ds≠.no:=fun z=>by rw[z] at o1;exact o1
 refine⟨by rw[r1.length];exact ln ds hm,Hi1,ds,tb.ext R1.ext,R1.s,r1,?_⟩
 cases z:m ds with
 | no=>exact absurd z hm
 | err c=>rw[z] at o1;exact fun C hC Hi2 H2 e2=>⟨c,hC,o1 Hi2 H2 e2⟩
 | ok r=>
  rw[z] at o1
  cases r with
  | v d=>exact o1.elim
  | f ds=>exact fun a Hi2 H2 e2 n=>o1 Hi2 H2 e2 a ⟨e1.h.none n.1,n.2⟩
theorem bI(W:Good X G k)(c:CanM X.prog X.w X.K X.mg X.base k x ps m)(hg:Gl X x)(ha:PAd X G (e::es) fs)
  (hdb:(x==("__debug__" : Str))=false:=by decide) (he:starEach (e::es) X.env=(false,eval e X.env)::starEach es X.env:=by rfl) (hpl:(backTo pos (starEach es X.env)).any (·.1)=false:=by rfl):
  PEf X G (.Call (.Name x p) (e::es) [] pos) (dC m fs):=by
 obtain⟨⟨f,fd,F,b,kp,hm⟩,ln⟩:=c;exact PE.wk (zCU F W.room hg hm kp b .nil W.pass ha hdb he hpl) (zLJ W.tb ln)
theorem bJ{d:D}(hg:Gl X x)(h:∃ v u',X.mg x=some u'/\dE v u'/\IsD X.K (fun _=>none) v d)(hdb:(x==("__debug__" : Str))=false:=by decide):PEd X G (.Name x pos) (eC d):=by
 obtain⟨v,u',hm,r,hd⟩:=h;exact aU (zGu hg hm r hdb) fun H=>hd.mono fun b o z=>by cases z
end
abbrev BX(P:Program)(w:World)(K:PySem.W.Frag)(mg:Str->Option Value)(base:Heap)(N:List Str)(x:Str)(st:Stmt)(f:Addr)(cdv:Value)(A:Around)(outer:List Env)(s:Shared)(H:Hp)(E:XK):Cx:=
 zFc (CX1 P w) P w K mg base N x (aI st) f cdv A outer s H E
theorem zAZ{K:PySem.W.Frag}{mg:Str->Option Value}{Bi H:Hp}{N:List Str}{vs:List V}{ds:List D}(s:Same Bi H)(h:IsDs K Bi vs ds):Rel K mg H Bi Bi H (L2.start N vs) (L3.start N.length ds) where
 len:=by
  unfold L2.start L3.start;rw[Ql,Ql,Qg,Qg,VH,VH,h.length]
 ext:=Ext.refl s
 slot:=fun i sl e=>by
  unfold L3.start at e;by_cases hi:i < ds.length
  ·rw[QM (by rw[Qg];exact hi),Qt] at e
   obtain⟨d,hd⟩:∃ d,ds[i]?=some d:=⟨_,Qn hi⟩;rw[hd] at e;cases e
   obtain⟨v,hv,r⟩:=h.at hd;refine⟨v,?_,r⟩
   unfold L2.start;rw[QM (by rw[Qg,h.length];exact hi),Qt,hv];rfl
  ·rw[QU (by rw[Qg];omega),Xi] at e
   split at e
   ·cases e;trivial
   ·cases e
 dist:=fun i j a es fs e _ _ _=>by
  exfalso
  unfold L3.start at e;by_cases hi:i < ds.length
  ·rw[QM (by rw[Qg];exact hi),Qt] at e
   cases z:ds[i]? with
   | none=>rw[z] at e;cases e
   | some d=>rw[z] at e;cases e
  ·rw[QU (by rw[Qg];omega),Xi] at e
   split at e<;>cases e
section
variable{P:Program}{w:World}{K:PySem.W.Frag}{mg:Str->Option Value}{base:Heap}{N ps:List Str}{x:Str}{st:Stmt}{f:Addr}{fd:FuncData}{k:Nat}{b:Sv}
theorem zGl{cdv:Value}{A:Around}{outer:List Env}{s:Shared}{H Bi:Hp}{E:XK}(hr:Room k (A.deeper (envOfC x (aI st) s.heap.objs.size f cdv)))(tb:TB K mg Bi H):
  Good (BX P w K mg base N x st f cdv A outer s H E) ⟨H,Bi,fun c H'=>∀ C,mg c=some C->E C none H'⟩ k where
 calm:=rfl
 room:=hr
 pass:=zQk fun c H' q=>by
  obtain⟨c',h1,h2⟩:=q;exact h2 c h1
 own:=PassesOwn.leaving
 tb:=tb
theorem zEI{cdv:Value}{A:Around}{outer:List Env}{s:Shared}{H Bi:Hp}{E:XK}:
  zHE (BX P w K mg base N x st f cdv A outer s H E) ⟨H,Bi,fun c H'=>∀ C,mg c=some C->E C none H'⟩:=fun pins σ H1 s1 s' ea cls vs I hx hos hg q=>by
 obtain⟨c',h1,h2⟩:=q;exact zCy I hx hos hg (h2 cls h1)
theorem zOZ(F:Fn K mg x st ps f fd)(S:FnScope N ps (aI st))
  (h:∀(cdv:Value)(A:Around)(outer:List Env)(s:Shared)(H:Hp)(E:XK)(G:Gx),Good (BX P w K mg base N x st f cdv A outer s H E) G k->zHE (BX P w K mg base N x st f cdv A outer s H E) G->fO (BX P w K mg base N x st f cdv A outer s H E) G (fR st) b):
  FnOk P w K mg base (CX1 P w) (k+1) f fd ps (spM K mg ps.length (fn ps.length N.length b)):=by
 obtain⟨oc,od,kV,doc,pm,an,cdv,ct,osl,rfl,lk,hcd⟩:=F.fn.ex;refine zNK lk hcd S (fun vs H Q E h=>h.1) fun A outer s H vs Q E hr hsp=>?_
 obtain⟨hl,Bi,ds,tb,sm,hd,hq⟩:=hsp;have hg:=zGl (P:=P) (w:=w) (K:=K) (mg:=mg) (base:=base) (N:=N) (outer:=outer) (H:=H) (Bi:=Bi) (E:=E) hr tb;refine⟨_,h cdv A outer s H E _ hg zEI,L3.start N.length ds,Bi,zAZ sm hd,?_⟩
 have hlen:ds.length=ps.length:=by rw[<-hd.length];exact hl
 unfold fn at hq;rw[if_pos hlen] at hq
 cases z:b (L3.start N.length ds) with
 | no=>rw[z] at hq;exact hq
 | err c=>rw[z] at hq;exact fun Hi' H' e C hC=>hq C hC Hi' H' e
 | ok fl=>
  rw[z] at hq
  cases fl with
  | nx ρ'=>exact fun σ' Hi' H' s R=>hq .non Hi' H' R.ext .non
  | brk ρ'=>exact hq.elim
  | ctn ρ'=>exact hq.elim
  | ret r=>
   cases r with
   | v d=>exact hq
   | f es=>exact hq
theorem aO(F:Fn K mg x st ps f fd)(S:FnScope N ps (aI st))
  (h:∀(cdv:Value)(A:Around)(outer:List Env)(s:Shared)(H:Hp)(E:XK)(G:Gx),Good (BX P w K mg base N x st f cdv A outer s H E) G k->zHE (BX P w K mg base N x st f cdv A outer s H E) G->fO (BX P w K mg base N x st f cdv A outer s H E) G (fR st) b):
  CanM P w K mg base (k+1) x ps (fn ps.length N.length b):=by
 refine⟨⟨f,fd,zOZ F S h,F.bd,F.kp,F.mg⟩,fun ds hm=>?_⟩
 unfold fn at hm;split at hm
 ·assumption
 ·exact absurd rfl hm
end
section
variable{X:Cx}{G:Gx}{a b e:Expr}{es:List Expr}{pos p:Pos}{f g:Ev}{fs gs:Fv}{t u:Tv}{x:Str}{st:Stmt}{rest:List Stmt}{sa sb:Sv}{k:Nat}
theorem PTd.frz(h:PTd X G e t):PTd X G e (tFrzB t):=PT.wk h fun σ H Q q=>by
 obtain⟨ρ,Hi,R,ou⟩:=q;obtain⟨Hf,s1,R1,fl⟩:=R.frz;refine⟨ρ.map Sl.frz,Hf,R1,?_⟩
 unfold tFrzB at ou
 cases z:t (ρ.map Sl.frz) with
 | no=>rw[z] at ou;exact ou
 | err c=>
  rw[z] at ou;intro Hi1 H1 e1;obtain⟨Ht,e2,k,s2,n⟩:=Ext.thaw s1 fl R1.s e1;exact ou Ht H1 e2
 | ok c=>
  rw[z] at ou;intro Hi1 H1 e1;obtain⟨Ht,e2,k,s2,n⟩:=Ext.thaw s1 fl R1.s e1;exact ou Ht H1 e2
def iSq(K:PySem.W.Frag)(tl:TE):TI:=fun σ H R=>tl σ H fun x H1=>∃ a,x=.ref a/\(((∃ xs,SqL K H1 a xs)/\R (Itl K a) H1)∨((∃ xs,SqT K H1 a xs)/\R (Itt K a) H1))
theorem zOg{tg l:Expr}{tl:TE}(hl:PE X l tl):PI X tg l (iSq X.K tl):=by
 intro pins s σ H R I h;refine thn (hl pins s σ H _ I h) fun v s1 ⟨x,H1,I1,r1,q1⟩=>?_
 obtain⟨a,e,q1⟩:=q1;subst e;cases r1;rcases q1 with⟨⟨xs,hq⟩,q⟩ | ⟨⟨xs,hq⟩,q⟩
 ·obtain⟨its,rv,p,hz⟩:=I1.list hq
  refine wpAny_pyIter_list p.isList ?_
  refine⟨s1.heap.objs.size,[s1.heap.objs.size],_,_,H1,rfl,I1.kept (t':=s1.toks) fun b o e=>Heap.get?_push_of_some _ e,zBN a _,⟨_,Heap.get?_push_size _ rfl,rfl,rfl⟩,fun b hb=>?_,q⟩
  have e:b=s1.heap.objs.size:=by simpa using hb
  subst e;exact I1.fpOk (Qh _) (I1.hok.fresh (Qh _))
 ·obtain⟨its,rv,p,hz⟩:=I1.tuple hq
  refine wpAny_pyIter_tuple (show s1.heap.IsTuple a its.toArray from p) ?_
  refine⟨s1.heap.objs.size,[s1.heap.objs.size],_,_,H1,rfl,I1.kept (t':=s1.toks) fun b o e=>Heap.get?_push_of_some _ e,zFx a _,⟨_,Heap.get?_push_size _ rfl,rfl,rfl⟩,fun b hb=>?_,q⟩
  have e:b=s1.heap.objs.size:=by simpa using hb
  subst e;exact I1.fpOk (Qh _) (I1.hok.fresh (Qh _))
theorem zBu{K:PySem.W.Frag}{Hi:Hp}{a:Addr}{xs:List V}{ds:List D}(h1:SqL K Hi a xs)(h2:IsDs K Hi xs ds):wK K Hi (Itl K a) ds:=fun Hi1 H1 s1 s2 i=>by
 have h3:=cY (s1.trans s2) h1;refine⟨fun hl=>⟨xs,h3,by rw[h2.length];exact hl⟩,fun d hd=>?_⟩
 obtain⟨v,hv,r⟩:=h2.at hd;refine⟨⟨xs,v,h3,hv⟩,fun x H2 y=>?_⟩
 obtain⟨e,y⟩:=y;subst e;have:=y xs h3
 rw[hv] at this;cases this;exact⟨Hi1,Ext.refl s2,r.mono s1⟩
theorem iS{tg:Expr}(h:PEd X G e f):PId X G tg e (qF f):=PI.wk (zOg h) fun σ H Q q=>by
 obtain⟨ρ,Hi,R,ou⟩:=q;refine zFb R ou fun v d Hi1 H1 e1 R1 r1 o1=>?_
 cases d with
 | lst ds=>
  obtain⟨a,xs,rfl,h1,h2⟩:=r1.lstI;exact⟨a,rfl,.inl ⟨⟨xs,cY R1.s h1⟩,o1.here R1.s _ (zBu h1 h2)⟩⟩
 | tup ds=>
  obtain⟨a,xs,rfl,h1,h2⟩:=r1.tupI;exact⟨a,rfl,.inr ⟨⟨xs,cQ R1.s h1⟩,o1.here R1.s _ (zGf h1 h2)⟩⟩
 | _=>exact o1.elim
theorem cA{i:Nat}:∀ d ρ c,gName i d ρ≠.err c:=fun d ρ c z=>by cases z
theorem zIm:∀ d ρ c,zIA d ρ≠.err c:=fun d ρ c z=>by cases d<;>cases z
theorem tE{g:Gv}{r:List D->Rho->Res Rho}(h1:∀ d ρ c,g d ρ≠.err c)(h2:∀ d ρ c,r d ρ≠.err c):∀ d ρ c,nM g r d ρ≠.err c:=fun d ρ c z=>by
 cases d with
 | nil=>cases z
 | cons d ds=>
  have z':(g d ρ).bind (fun ρ'=>r ds ρ')=.err c:=z
  cases q:g d ρ with
  | no=>rw[q] at z';cases z'
  | err c'=>exact h1 _ _ _ q
  | ok ρ'=>rw[q] at z';exact h2 _ _ _ z'
theorem zGV{r:List D->Rho->Res Rho}(h:∀ d ρ c,r d ρ≠.err c):∀ d ρ c,zHv r d ρ≠.err c:=fun d ρ c z=>by
 cases d<;>first | cases z | exact h _ _ _ z
theorem zLj:∀(ds:List D)(ρ ρ':Rho),zIA ds ρ=.ok ρ'->ds.length=0:=fun ds ρ ρ' z=>by
 cases ds with
 | nil=>rfl
 | cons d ds=>cases z
theorem yK{g:Gv}{r:List D->Rho->Res Rho}{n:Nat}(h:∀ (ds:List D) (ρ ρ':Rho),r ds ρ=.ok ρ'->ds.length=n):∀(ds:List D)(ρ ρ':Rho),nM g r ds ρ=.ok ρ'->ds.length=n+1:=fun ds ρ ρ' z=>by
 cases ds with
 | nil=>cases z
 | cons d ds=>
  have z':(g d ρ).bind (fun ρ'=>r ds ρ')=.ok ρ':=z
  cases q:g d ρ with
  | no=>rw[q] at z';cases z'
  | err c'=>rw[q] at z';cases z'
  | ok ρ1=>rw[q] at z';rw[Qm,h ds ρ1 ρ' z']
theorem zU:∀ a b d,xV a b=.ok d->∃ i j,a=.int i/\b=.int j/\d=.int (i+j):=fun a b d z=>by
 unfold xV at z;split at z
 ·cases z;exact⟨_,_,rfl,rfl,rfl⟩
 ·cases z
theorem sZ:∀ a b c,xV a b≠.err c:=fun a b c z=>by unfold xV at z;split at z<;>cases z
theorem zHL:∀ a b d,zCt a b=.ok d->∃ i j,a=.int i/\b=.int j/\d=.int (i - j):=fun a b d z=>by
 unfold zCt at z;split at z
 ·cases z;exact⟨_,_,rfl,rfl,rfl⟩
 ·cases z
theorem zEu:∀ a b c,zCt a b≠.err c:=fun a b c z=>by unfold zCt at z;split at z<;>cases z
end
theorem zBG{K:PySem.W.Frag}{H:Hp}:∀ ns:List Int,IsDs K H (ns.map V.int) (ns.map D.int)
 | []=>.nil
 | n::ns=>.cons (.int n) (zBG ns)
section
variable{X:Cx}{G:Gx}{e:Expr}{es:List Expr}{pos np cpos:Pos}{fs:Fv}{k:Nat}{c:Str}
theorem gJ(W:Good X G k)(WR:zHE X G)(hR:∃ C,Err X.K X.mg c C)(hg:Gl X c)(ha:PAd X G (e::es) fs)
  (he:starEach (e::es) X.env=(false,eval e X.env)::starEach es X.env:=by rfl) (hplain:(backTo cpos (starEach es X.env)).any (·.1)=false:=by rfl) (hd:(c==("__debug__" : Str))=false:=by decide):
  PSd X G (.Raise (some (.Call (.Name c np) (e::es) [] cpos)) none pos) (jA c fs):=by
 intro pins s σ H E I q;obtain⟨ρ,Hi,R,h⟩:=q;obtain⟨C,Er⟩:=hR;obtain⟨bmB,newId,B,initId,O,FB⟩:=Er.own X.base I.mod.kin;obtain⟨tl,N,nm,q,bs,hdct,sn,sub,ab,col,dd,k0,k1,k2,k3,k5,mN,hC,hN,hni,T⟩:=O.obj
 have hA:=ha cpos pins s σ H (fun vs H1=>vs.length<=sizeLine/\XE X G (.ref C) none H1) I ⟨ρ,Hi,R,nN R h fun ds Hi' H' _ e1 h' vs r=>by
  have h':Fin X G Hi' E (if ds.length<=16777216 then (.err c:Res Fl) else .no):=h';by_cases hz:ds.length<=16777216
  ·rw[if_pos hz] at h'
   exact⟨by rw[r.length];exact hz,c,O.bound,h' Hi' H' (R.ext.trans e1)⟩
  ·rw[if_neg hz] at h';exact h'.elim⟩
 refine wpAny_Raise_call_subT (C:=C) (nm:=nm) (q:=q) (N:=N) (bs:=bs) (bm:=tl) (hdct:=hdct) (sn:=sn) (sub:=sub) (ab:=ab) (col:=col) (dd:=dd) (k0:=k0) (k1:=k1) (k2:=k2) (k3:=k3) (k5:=k5)
  FB (mN:=mN) (T.hasType FB.hasBase) (I.ok.hd W.calm) (by rw[he];show(false || (backTo cpos (starEach es X.env)).any (·.1))=false;rw[hplain];rfl) hni (zDs I hg O.bound ⟨rfl,?_⟩ hd)
 rw[he] at hA ⊢
 refine Calls.evalArgs_plain (wpAny_mono hA (fun us s₂ h₂=>?_) fun _ _ y=>y)
 obtain⟨vs,H2,I2,rv,hz,hx⟩:=h₂;exact⟨rfl,by show us.length<=sizeLine;rw[<-rv.length];exact hz,I2.bk _ _ hC,hN.keeps I2.bk,T.keeps I2.bk,fun h' ea hm=>WR pins σ H2 s₂ { s₂ with heap:=h' } ea (.ref C) us I2 hm rfl I2.bare hx⟩
end
end L3
namespace L3
open PySem PySem.Spec PyProof.Rows L2 PySem.W Builtin Builtin.ObjectAttr Builtin.Getset_descriptor
unseal PEd PEf PTd PWd PAd PSd fO POd PGd jJ PId
section
variable{prog:Program}{w:World}{A:Around}{E:Value->Shared->Prop}{s:Shared}{K:Frag}{x D:Addr}{ox:Obj}
end
section
variable{prog:Program}{w:World}{A:Around}{E:Value->Shared->Prop}{s:Shared}{K:Frag}{x C CE:Addr}{ox:Obj}
end
section
variable{X:Cx}{pins:List (Addr×Obj)}{σ:St}{H H':Hp}{s s':Shared}{ea:Addr}{cls:Value}
theorem _root_.L2.Inv.track(I:Inv X pins σ H s){a:Addr}{o:HO}(hn:H a=none)(h0:X.s₀.heap.get? a=none)(hl:a≠X.env.locals)(hc:∀ x c,X.env.cells.lookup x=some c->c≠a)(hp:∀ p∈X.pn++pins,p.1≠a)
  (ho:lV X.prog X.w (upd H a o) s.heap a o):Inv X pins σ (upd H a o) s where
 ok:=I.ok
 os:=I.os
 bare:=I.bare
 base:=⟨I.base.keep,I.base.slot,fun b ob e n hx=>by
   have:b≠a:=fun z=>by rw[z,h0] at e;cases e
   rw[bA this];exact I.base.free b ob e n hx,I.base.there,fun b xs e=>by
   have z:=I.base.tups b xs e
   rw[bA (bE z hn)];exact z,fun b ob u e=>by
   have z:=I.base.frzs b ob u e
   rw[bA (bE z hn)];exact z,fun b ps e=>by
   obtain⟨m,z⟩:=I.base.tbls b ps e
   exact⟨m,by rw[bA (bE z hn)];exact z⟩⟩
 loc:=I.loc
 cell:=I.cell
 free:=by rw[bA (Ne.symm hl)];exact I.free
 freeC:=fun x c e=>by rw[bA (hc x c e)];exact I.freeC x c e
 pin:=fun p hp'=>by
  obtain⟨e1,e2,e3,e4,e5⟩:=I.pin p hp';exact⟨e1,by rw[bA (hp p hp')];exact e2,e3,e4,e5⟩
 hok:=fun b u e=>by
  by_cases hb:b=a
  ·subst hb;rw[bB] at e;cases e;exact ho
  ·rw[bA hb] at e
   exact(I.hok b u e).stay (fun c v _ q=>q) (fun c q=>by rw[bA (bE q hn)];exact q) fun c xs q=>by rw[bA (bE q hn)];exact q
 len:=I.len
end
section
variable{X:Cx}{G:Gx}{a e:Expr}{es:List Expr}{pos p:Pos}{fs:Fv}{t:Tv}{x:Str}{k:Nat}{ps:List Str}{m:Mir}{st:Stmt}{sts:List Stmt}{sa sb:Sv}
def zRo(X:Cx)(pins:List (Addr×Obj))(σ:St)(Hi H:Hp)(c:Str)(ev:Value)(s':Shared):Prop:=
 ∃(s1:Shared)(H1:Hp)(ea:Addr)(cls:Value)(Hi' H':Hp),ev=.ref ea/\Inv X pins σ H1 s1/\X.mg c=some cls/\Fly X.prog X.w X.stack H1 H' s1 ea cls s'/\Ext Hi H Hi' H'/\Keep H H1
def zRq(X:Cx)(G:Gx)(Hi:Hp)(E:zCx)(r:Res Fl):Prop:=match r with
 | .err _=>True
 | r=>Fin X G Hi E r
@[irreducible] def PSx (X:Cx) (G:Gx) (st:Stmt) (f:Sv):Prop:=∀(pins:List (Addr×Obj))(s:Shared)(σ:St)(H:Hp)(E:zCx)(ρ:Rho)(Hi:Hp)(Et:Value->Shared->Prop),
 Inv X pins σ H s->lN X G Hi H σ ρ->f ρ≠.no->zRq X G Hi E (f ρ)->(∀ c ev s',f ρ=.err c->zRo X pins σ Hi H c ev s'->Et ev s')->wpAny (model X.prog X.w) X.A (exec st X.env) (SP X pins E) Et s
unseal PSx
@[irreducible] def nS (X:Cx) (G:Gx) (sts:List Stmt) (f:Sv):Prop:=∀(pins:List (Addr×Obj))(s:Shared)(σ:St)(H:Hp)(E:zCx)(ρ:Rho)(Hi:Hp)(Et:Value->Shared->Prop),
 Inv X pins σ H s->lN X G Hi H σ ρ->f ρ≠.no->zRq X G Hi E (f ρ)->(∀ c ev s',f ρ=.err c->zRo X pins σ Hi H c ev s'->Et ev s')->wpAny (model X.prog X.w) X.A (execs sts X.env) (SP X pins E) Et s
unseal nS
end
end L3
namespace L3
open PySem PySem.Spec PyProof.Rows L2 PySem.W
unseal PEd PEf PTd PWd PAd PSd fO POd PGd jJ PId PSx nS
section
variable{X:Cx}{G:Gx}{k:Nat}{fb fh:Sv}{body suite:List Stmt}{b₀:Stmt}{ce n:Str}{np hpos pos:Pos}{i:Nat}{tb:List Str}
end
section
variable{X:Cx}{G:Gx}{a:Expr}{p q pos:Pos}{i:Nat}{anc:List (Str×List Str)}{xs:List Str}{x:Str}
end
section
variable{K:Frag}{h:Heap}{mg:Str->Option Value}{x c ce:Str}{C CE:Addr}
theorem sF{newId:String}{bmB:List Value}{B initId:String}(X:K.In h)(G:h.Ns mainGlobals mg)(e:nsIn K mainGlobals x=some (some (.ref C)))(q:excIn K C bmB newId=true)(F:ExcBaseFacts B newId initId bmB):∃ C,Err K mg x C:=by
 refine⟨C,⟨fun h' X'=>⟨bmB,newId,B,initId,⟨mg_of X G e,?_⟩,F⟩⟩⟩
 unfold excIn at q;split at q
 ·rename_i dd cd sl ho
  split at q
  ·rename_i C' bm k0 k1 k2 k3 n k5 hm hs
   simp only[Va,beq_iff_eq,Bool.not_eq_true'] at q;obtain⟨⟨⟨⟨⟨rfl,rfl⟩,hdel⟩,ht⟩,hok⟩,hni⟩:=q;obtain⟨nm,bs,mro,ns,qn,hd,sn,sub,ab,col,del⟩:=cd;dsimp only at hm hdel hok hni
   subst hm hdel
   have hsl:sl=#[k0,k1,k2,k3,some (.builtin n),k5]:=by
    obtain⟨l⟩:=sl;simp only at hs
    rw[hs]
   subst hsl;exact⟨bm,ns,nm,qn,bs,hd,sn,sub,ab,col,dd,k0,k1,k2,k3,k5,_,X' _ _ ho,.of_isNs (isNs_of_in X' hok),nsMap_none_of_in X' hok hni,tail_of_in X' ht⟩
  ·cases q
 ·cases q
end
def zCB(env:Env):List (Str×NameKind)->List (Str×Addr)->List (Str×Addr)
 | [],cs=>cs
 | (n,k)::r,cs=>zCB env r (if k==.free then (n,(env.cells.lookup n).getD 0)::cs else cs)
theorem zLc{env:Env}:∀(l:List (Str×NameKind))(cs:List (Str×Addr)),(∀ p∈l,p.2=.free->∃ c,env.cells.lookup p.1=some c)->
  (forIn l cs (fun p (r:List (Str×Addr))=>if (p.2==NameKind.free)=true then (do let a <-cellOf env p.1;pure (ForInStep.yield ((p.1,a)::r))) else pure (ForInStep.yield r)):Sem (List (Str×Addr)))=pure (zCB env l cs)
 | [],cs,_=>by simp[zCB]
 | (n,k)::r,cs,h=>by
  rw[List.forIn_cons,zCB];have ih:=fun cs=>zLc r cs fun p hp=>h p (Qc _ hp)
  by_cases e:(k==NameKind.free)=true
  ·obtain⟨c,hc⟩:=h (n,k) Qb (beq_iff_eq.mp e)
   simp only[e,if_true,cellOf,hc,pure_bind,Option.getD_some];exact ih _
  ·simp only[e,VM,if_false,pure_bind]
   exact ih _
theorem zLt{env:Env}{scope:Scope}(h:∀ p∈scope.names,p.2=.free->∃ c,env.cells.lookup p.1=some c):closureFor scope env=pure (zCB env scope.names []):=by
 have:=zLc scope.names [] h
 unfold closureFor;rw[<-this];simp
theorem uA{env:Env}:∀(l:List (Str×NameKind))(cs:List (Str×Addr)),(∀ p∈l,p.2=.free->∃ c,env.cells.lookup p.1=some c)->(∀ y c,cs.lookup y=some c->env.cells.lookup y=some c)->
  ∀ y c,(zCB env l cs).lookup y=some c->env.cells.lookup y=some c
 | [],cs,_,h,y,c,e=>h y c e
 | (n,k)::r,cs,hl,h,y,c,e=>by
  rw[zCB] at e;refine uA r _ (fun p hp=>hl p (Qc _ hp)) (fun y c e=>?_) y c e
  by_cases z:(k==NameKind.free)=true
  ·obtain⟨c',hc⟩:=hl (n,k) Qb (beq_iff_eq.mp z)
   simp only[z,if_true,Ve,hc,Option.getD_some] at e
   cases w:y==n with
   | true=>rw[w] at e;cases e;rw[beq_iff_eq.mp w];exact hc
   | false=>rw[w] at e;exact h y c e
  ·simp only[z,VM,if_false] at e
   exact h y c e
theorem zEs{env:Env}:∀(l:List (Str×NameKind))(cs:List (Str×Addr))(y:Str),(∃ c,cs.lookup y=some c)->∃ c,(zCB env l cs).lookup y=some c
 | [],cs,y,h=>h
 | (n,k)::r,cs,y,⟨c,h⟩=>by
  rw[zCB];refine zEs r _ y ?_
  split
  ·rw[Ve]
   cases y==n with
   | true=>exact⟨_,rfl⟩
   | false=>exact⟨c,h⟩
  ·exact⟨c,h⟩
theorem uZ{env:Env}:∀(l:List (Str×NameKind))(cs:List (Str×Addr))(y:Str),(y,NameKind.free)∈l->∃ c,(zCB env l cs).lookup y=some c
 | (n,k)::r,cs,y,h=>by
  rw[zCB];rcases Qe.mp h with e | h
  ·cases e
   refine zEs r _ _ ⟨(env.cells.lookup n).getD 0,?_⟩
   simp only[beq_self_eq_true,if_true,Ve]
  ·exact uZ r _ y h
theorem bY{α:Type}:∀ {l:List (Str×α)} {y:Str} {k:α},l.lookup y=some k->(y,k)∈l
 | (n,k')::r,y,k,h=>by
  rw[Ve] at h
  cases z:y==n with
  | true=>rw[z] at h;cases h;rw[beq_iff_eq.mp z];exact Qb
  | false=>rw[z] at h;exact Qc _ (bY h)
theorem cJ{env:Env}:∀ {l:List (Str×NameKind)} {y:Str} {k:NameKind},
  (l.map fun(n,k)=>if (k==NameKind.free && env.scope.kind==.function && env.kindOf n==some .cell) then (n,NameKind.cell) else (n,k)).lookup y=some k->
  l.lookup y=some k∨(k=.cell/\l.lookup y=some .free)
 | (n,k')::r,y,k,h=>by
  rw[Qv] at h;rw[Ve];by_cases c:(k'==NameKind.free && env.scope.kind==.function && env.kindOf n==some .cell)=true
  ·simp only[c,if_true,Ve] at h
   cases z:y==n with
   | true=>
    rw[z] at h;cases h;refine .inr ⟨rfl,?_⟩
    simp only[Va] at c;rw[beq_iff_eq.mp c.1.1]
   | false=>rw[z] at h;exact cJ h
  ·simp only[c,VM,if_false,Ve] at h
   cases z:y==n with
   | true=>rw[z] at h;exact .inl h
   | false=>rw[z] at h;exact cJ h
def msk(x y:Str):Str:=if y=x then ("" : Str) else y
structure BlkOk (X:Cx) (x:Str) (scope:Scope):Prop where
 kind:scope.kind=.function
 cell:∀ y∈scope.names,y.2≠.cell
 loc:scope.names.lookup x=some .local
 names:∀ y∈scope.names,y.2=.local->scope.names.lookup y.1=some .local
 fre:∀ p∈scope.names,p.2=.free->X.env.kindOf p.1=some .cell∨X.env.kindOf p.1=some .free
 oth:∀ y∈X.N,y≠x->scope.names.lookup y≠some .local
 emp:scope.names.lookup ("" : Str)=none
def cxC(X:Cx)(x:Str)(scope:Scope)(C:Addr)(s₂:Shared)(H₂:Hp)(fp:List Addr):Cx:=
  { prog:=X.prog,w:=X.w,K:=X.K,mg:=X.mg,base:=X.base,A:=X.A,N:=X.N.map (msk x)++[x],s₀:=s₂,H₀:=H₂,env:=compEnvC scope (zCB X.env scope.names []) C X.env,outer:=X.stack,stack:=X.stack,
    ex:=fp,fn:=fun _=>false,calm:=X.calm,pn:=X.pn,xe:=fun _ _=>False }
section
variable{X:Cx}{pins:List (Addr×Obj)}{σ:St}{H:Hp}{s₂:Shared}{x:Str}{scope:Scope}{fp:List Addr}{D C:Addr}{h₁:Heap}
theorem BlkOk.cl(B:BlkOk X x scope)(I:Inv X pins σ H s₂):∀ p∈scope.names,p.2=.free->∃ c,X.env.cells.lookup p.1=some c:=fun p hp e=>I.ok.has p.1 (B.fre p hp e)
theorem zQM(I:Inv X pins σ H s₂)(B:BlkOk X x scope)(hfp:∀ b∈fp,sM X pins H b)(hfl:∀ b∈fp,b < s₂.heap.objs.size)(hD:s₂.heap.objs.size<=D)(hC:s₂.heap.objs.size<=C)(hDC:D≠C)
  (old:∀ b o,s₂.heap.get? b=some o->h₁.get? b=some o) {n:Nat} (hacc:h₁.get? D=some { cls:=.type "list", data:=.seq ([]:List Value).toArray n }) {m:Str->Option Value} (hns:h₁.Ns C m) (t:Nat):
  Inv (cxC X x scope C s₂ H fp) pins (σ++[none]) (upd H D (.lst [])) { s₂ with heap:=h₁,toks:=t }:=by
 have sub:=uA scope.names [] (B.cl I) (fun y c e=>nomatch e)
 have old_lt:∀ {b:Addr} {o:Obj},s₂.heap.get? b=some o->b≠D/\b≠C:=fun e=>⟨Qs (Qo (Heap.lt_size e) hD),Qs (Qo (Heap.lt_size e) hC)⟩
 have free:∀ {b:Addr},b≠D->H b=none->upd H D (.lst []) b=none:=fun n e=>by rw[bA n];exact e
 refine⟨⟨I.ok.mod,B.kind,I.ok.glob,I.ok.blt,hC,fun y z c e1 e2=>I.ok.inj y z c (sub y c e1) (sub z c e2),fun y hy=>?_,fun y c e=>(nomatch e),I.ok.hd,I.ok.frames,.inl rfl,fun b hb=>⟨Qs (Qo (hfl b hb) hC),fun y c e=>(hfp b hb).2.2.2.2.1 y c (sub y c e)⟩,
  I.bs,QB I.ok.bsz I.sz,fun b o e hb=>?_,fun b hb z=>?_,I.stack,I.stkFree⟩,rfl,I.bare,Un.laid old hD (I.hok.fresh hD),⟨m,hns,fun i y v e1 e2 e3=>?_⟩,fun y c e=>?_,free (Ne.symm hDC) (I.hok.fresh hC),fun y c e=>?_,fun p hp=>?_,I.hok.laid old hD ⟨Vd _,[],n,.nil,hacc⟩,?_⟩
 ·have:∃ k,(k=NameKind.cell∨k=NameKind.free)/\((relabel scope X.env).names).lookup y=some k:=hy.elim (fun h=>⟨_,.inl rfl,h⟩) fun h=>⟨_,.inr rfl,h⟩
  obtain⟨k,hk,e⟩:=this
  have e':(y,NameKind.free)∈scope.names:=by
   rcases cJ e with z | ⟨_,z⟩
   ·rcases hk with rfl | rfl
    ·exact absurd rfl (B.cell _ (bY z))
    ·exact bY z
   ·exact bY z
  exact uZ scope.names [] y e'
 ·rcases (hfp b hb).2.2.2.1 with z | z
  ·exact I.ok.noex b o e z
  ·exact absurd (Qo (Heap.lt_size e) (QB I.ok.bsz z)) (Vh _)
 ·rcases Qe.mp (I.stkSub b z) with w | w
  ·exact(hfp b hb).2.1 w
  ·exact(hfp b hb).2.2.1 w
 ·
  have hi:i < σ.length:=by
   by_cases hi:i < σ.length
   ·exact hi
   ·exfalso
    rw[QU (by omega)] at e2
    cases q:i - σ.length with
    | zero=>rw[q] at e2;cases e2
    | succ j=>rw[q] at e2;cases e2
  rw[QM hi] at e2;have e1':(X.N.map (msk x)++[x])[i]?=some y:=e1;rw[QM (by rw[Qg,<-I.len];exact hi),Qt] at e1'
  cases q:X.N[i]? with
  | none=>rw[q] at e1';cases e1'
  | some z=>
   rw[q] at e1';have e1'':msk x z=y:=QK e1';have hz:z∈X.N:=Qi q;have vis:∃ k,((relabel scope X.env).names).lookup y=some k:=e3.elim (fun h=>⟨_,h⟩) fun h=>h.elim (fun h=>⟨_,h⟩) fun h=>⟨_,h⟩
   have hzx:z≠x:=fun w=>by
    obtain⟨k,hk⟩:=vis;have:y=("" : Str):=by rw[<-e1'',w];exact if_pos rfl
    rw[this] at hk;rcases cJ hk with h | ⟨_,h⟩<;>(rw[B.emp] at h;cases h)
   have hy:z=y:=by rw[<-e1''];exact(if_neg hzx).symm
   subst hy
   have fr:(z,NameKind.free)∈scope.names:=by
    rcases e3 with h | h | h
    ·rcases cJ h with h | ⟨h,_⟩
     ·exact absurd h (B.oth z hz hzx)
     ·cases h
    ·rcases cJ h with h | ⟨_,h⟩
     ·exact absurd rfl (B.cell _ (bY h))
     ·exact bY h
    ·rcases cJ h with h | ⟨h,_⟩
     ·exact bY h
     ·cases h
   have kd:=B.fre _ fr rfl;obtain⟨m0,hn0,hl⟩:=I.loc;obtain⟨u,ru,lk⟩:=hl i z v q e2 (kd.elim (fun h=>.inr (.inl h)) fun h=>.inr (.inr h))
   refine⟨u,ru,.inr ⟨?_,?_⟩⟩
   ·rcases e3 with h | h | h
    ·rcases cJ h with h | ⟨h,_⟩
     ·exact absurd h (B.oth z hz hzx)
     ·cases h
    ·exact .inl h
    ·exact .inr h
   ·rcases lk with⟨k1,_⟩ | ⟨_,c,hc,hcell⟩
    ·rcases kd with kd | kd<;>(rw[kd] at k1;cases k1)
    ·obtain⟨c',hc'⟩:=uZ (env:=X.env) scope.names [] z fr
     have:=sub z c' hc'
     rw[hc] at this;cases this;obtain⟨o,ho,hd⟩:=hcell;exact⟨c,hc',o,old _ _ ho,hd⟩
 ·obtain⟨v,o,ho,hd⟩:=I.cell y c (sub y c e)
  exact⟨v,o,old _ _ ho,hd⟩
 ·obtain⟨v,o,ho,hd⟩:=I.cell y c (sub y c e)
  exact free (old_lt ho).1 (I.freeC y c (sub y c e))
 ·obtain⟨e,n,ne,nf,d⟩:=I.pin p hp
  refine⟨old _ _ e,free (old_lt e).1 n,(old_lt e).2,fun z=>?_,d⟩
  rcases Qe.mp (I.stkSub _ z) with w | w
  ·exact ne w
  ·exact nf w
 ·show(σ++[none]).length=(X.N.map (msk x)++[x]).length
  rw[Ql,Ql,Qg,I.len];rfl
end
section
variable{K:PySem.W.Frag}{mg:Str->Option Value}{B Bi Hi H Hi' H':Hp}{σ:St}{ρ:Rho}
theorem Rel.snoc{v:V}{d:D}(R:Rel K mg B Bi Hi H σ ρ)(h:IsD K Hi v d):Rel K mg B Bi Hi H (σ++[some v]) (ρ++[.val d]) where
 len:=by rw[Ql,Ql,R.len];rfl
 ext:=R.ext
 slot:=fun j s q=>by
  by_cases hl:j < ρ.length
  ·rw[QM hl] at q
   rw[QM (by rw[R.len];exact hl)];exact R.slot j s q
  ·rw[QU (by omega)] at q
   rw[QU (by rw[R.len];omega),R.len]
   cases z:j - ρ.length with
   | zero=>rw[z] at q;cases q;exact⟨v,rfl,h⟩
   | succ n=>rw[z] at q;cases q
 dist:=fun j k a ds es q1 q2 q3 q4=>by
  have own:∀ {j:Nat} {ds:List D},(ρ++[Sl.val d])[j]?=some (.own ds)->j < ρ.length:=fun {j ds} q=>by
   by_cases hl:j < ρ.length
   ·exact hl
   ·rw[QU (by omega)] at q
    cases z:j - ρ.length with
    | zero=>rw[z] at q;cases q
    | succ n=>rw[z] at q;cases q
  have h1:=own q1;have h2:=own q2;rw[QM h1] at q1;rw[QM h2] at q2;rw[QM (by rw[R.len];exact h1)] at q3;rw[QM (by rw[R.len];exact h2)] at q4;exact R.dist j k a ds es q1 q2 q3 q4
theorem Ext.rewrite{a:Addr}{o:HO}(e:Ext Hi H Hi' H')(hn:H a=none)(hi:Hi' a=none)(hl:∃ xs,H' a=some (.lst xs)):Ext Hi H Hi' (upd H' a o) where
 i:=e.i
 h:=⟨fun b u z=>by rw[bA (bE z hn)];exact e.h.k _ _ z,fun P z=>by
  obtain⟨xs,hl⟩:=hl
  exact(e.h.t P z).put (fun ps y=>by rw[hl] at y;cases y) (fun ob u y=>by rw[hl] at y;cases y)⟩
 s:=fun b u z=>by rw[bA (bE z hi)];exact e.s _ _ z
 n:=e.n
theorem IsDs.snoc{v:V}{d:D}(h:IsD K H v d):∀ {vs:List V} {ds:List D},IsDs K H vs ds->IsDs K H (vs++[v]) (ds++[d])
 | _,_,.nil=>.cons h .nil
 | _,_,.cons r t=>.cons r (IsDs.snoc h t)
end
theorem zAz{α:Type}{r:Res α}{a:α}(h:noErr r=.ok a):r=.ok a:=by
 cases r with
 | ok b=>exact h
 | err c=>cases h
 | no=>cases h
theorem zFW{t:Tv}{f:Ev}{ρ:Rho}{d:D}{ds es:List D}(h:iC t f ρ (d::ds)=.ok es):
  (t (ρ++[.val d])=.ok false/\iC t f ρ ds=.ok es)∨(t (ρ++[.val d])=.ok true/\∃ e es',f (ρ++[.val d])=.ok e/\iC t f ρ ds=.ok es'/\es=e::es'):=by
 rw[iC] at h
 cases ht:noErr (t (ρ++[.val d])) with
 | no=>rw[ht] at h;cases h
 | err c=>rw[ht] at h;cases h
 | ok c=>
  rw[ht] at h;have ht':=zAz ht
  cases c with
  | false=>exact .inl ⟨ht',h⟩
  | true=>
   refine .inr ⟨ht',?_⟩
   have h':((noErr (f (ρ++[.val d]))).bind fun e=>(iC t f ρ ds).bind fun es=>.ok (e::es))=.ok es:=h
   cases hf:noErr (f (ρ++[.val d])) with
   | no=>rw[hf] at h';cases h'
   | err c=>rw[hf] at h';cases h'
   | ok e=>
    rw[hf] at h';have h'':((iC t f ρ ds).bind fun es=>.ok (e::es))=.ok es:=h'
    cases hr:iC t f ρ ds with
    | no=>rw[hr] at h'';cases h''
    | err c=>rw[hr] at h'';cases h''
    | ok es'=>
     rw[hr] at h'';cases h''
     exact⟨e,es',zAz hf,rfl,rfl⟩
theorem zP{t:Tv}{f:Ev}{ρ:Rho}{c:Str}:∀ {ds:List D},iC t f ρ ds≠.err c
 | []=>fun h=>by cases h
 | d::ds=>fun h=>by
  rw[iC] at h
  cases ht:noErr (t (ρ++[.val d])) with
  | no=>rw[ht] at h;cases h
  | err c=>cases q:t (ρ++[.val d])<;>(rw[q] at ht;cases ht)
  | ok b=>
   rw[ht] at h
   cases b with
   | false=>exact zP h
   | true=>
    have h':((noErr (f (ρ++[.val d]))).bind fun e=>(iC t f ρ ds).bind fun es=>.ok (e::es))=.err c:=h
    cases hf:noErr (f (ρ++[.val d])) with
    | no=>rw[hf] at h';cases h'
    | err c=>cases q:f (ρ++[.val d])<;>(rw[q] at hf;cases hf)
    | ok e=>
     rw[hf] at h'
     cases hr:iC t f ρ ds with
     | no=>simp only[Res.bind,hr] at h';cases h'
     | err c'=>exact zP hr
     | ok es=>simp only[Res.bind,hr] at h';cases h'
@[irreducible] def PTs (X:Cx) (G:Gx) (ifs:List Expr) (t:Tv):Prop:=
 ∀(pins:List (Addr×Obj))(s:Shared)(σ:St)(H:Hp)(Q:Bool->Hp->Prop),Inv X pins σ H s->tTb X G t σ H Q->
  wpAny (model X.prog X.w) X.A (forIn ifs true fun c r=>if r=true then do let ok <-isTrue c X.env (eval c X.env);pure (ForInStep.yield ok) else pure (ForInStep.yield r)) (TP X pins σ Q) X.xe s
unseal PTs
theorem jI{X:Cx}{G:Gx}:PTs X G [] jC:=fun pins s σ H Q I ⟨ρ,Hi,R,o⟩=>wpAny_tests_nil ⟨H,I,Out.here (a:=true) o R.s⟩
end L3
namespace L3
open PySem PySem.Spec PyProof.Rows L2
unseal PEd PEf PTd PWd PAd PSd fO POd PGd jJ PId PSx nS PTs
section
variable{X:Cx}{G:Gx}{elt iter:Expr}{x:Str}{px pos:Pos}{ifs:List Expr}{scope:Scope}{it:Fv}{t:Tv}{f:Ev}{k:Nat}
theorem zME{M:Model}{A:Around}{α:Type}{m:Sem α}{itv u:Value}{s:Shared}{Q1:Unit->Shared->Prop}{R1:α->Shared->Prop}{E:Value->Shared->Prop}(h:wpAny M A (letOwnedTupleGo (.Name x px) itv u) Q1 E s)
  (k:∀ s5,Q1 () s5->wpAny M A m R1 E s5):wpAny M A m R1 E s:=by
 have key:=wpAny_bind (f:=fun _:Unit=>m) (wpAny_mono h (fun _ s5 h5=>k s5 h5) fun _ _ z=>z)
 have e:(letOwnedTupleGo (.Name x px) itv u >>= fun _=>m)=m:=pure_bind () fun _=>m
 rw[e] at key;exact key
theorem zIP{N:List Str}(hN:N.Nodup)(h0:("" : Str)∉N)(hx:x≠("" : Str)):(N.map (msk x)++[x]).Nodup:=by
 rw[List.nodup_append];refine⟨?_,VG.mpr ⟨by simp,List.nodup_nil⟩,fun a ha b hb e=>?_⟩
 ·induction N with
  | nil=>exact List.nodup_nil
  | cons y N ih=>
   rw[Qv,VG];obtain⟨hy,hN⟩:=VG.mp hN;refine⟨fun hm=>?_,ih hN fun z=>h0 (Qc _ z)⟩
   obtain⟨z,hz,e⟩:=Qp.mp hm;unfold msk at e;by_cases c1:z=x
   ·by_cases c2:y=x
    ·exact hy (by rw[c2,<-c1];exact hz)
    ·rw[if_pos c1,if_neg c2] at e;exact h0 (by rw[e];exact Qb)
   ·by_cases c2:y=x
    ·rw[if_neg c1,if_pos c2] at e;exact h0 (by rw[<-e];exact Qc _ hz)
    ·rw[if_neg c1,if_neg c2] at e;exact hy (by rw[<-e];exact hz)
 ·obtain⟨z,hz,e1⟩:=Qp.mp ha
  rw[Qu] at hb;subst hb;subst e;unfold msk at e1;split at e1
  ·exact hx e1.symm
  ·rename_i c;exact c e1
structure CW where
 i:Nat
 v:List (Option V)
 H:Hp
 Hi:Hp
 ys:List V
 done:List D
 rest:List D
structure CS (Y:Cx) (pins:List (Addr×Obj)) (σ:St) (tn:Nat->Heap->Prop) (fp:List Addr) (Hi2 H2:Hp) (a:Addr) (m:Nat) (cp:Nat->Res (List D)) (es:List D) (c:CW) (s':Shared):Prop where
 inv:Inv Y pins (σ++c.v) c.H s'
 wid:c.v.length=m
 tn:tn c.i s'.heap
 fr:∀ b∈fp,c.H b=none
 ext:Ext Hi2 H2 c.Hi c.H
 acc:c.H a=some (.lst c.ys)
 hi:c.Hi a=none
 isd:IsDs Y.K c.Hi c.ys c.done
 len:c.done.length<=c.i
 cmp:cp c.i=.ok c.rest
 all:es=c.done++c.rest
def zQZ(X:Cx)(pins:List (Addr×Obj))(σ:St)(use:Option (Value->Sem Unit))(Q':Value->Shared->Prop)(Qa:Addr->Hp->Prop):Prop:=
 ∀(C A:Addr)(m:Str->Option Value)(s4:Shared)(H3:Hp),s4.heap.Ns C m->(∀ h',Heap.SameBut C s4.heap h'->Inv X pins σ H3 { s4 with heap:=h' })->sM X pins H3 C->Qa A H3->
  compPost (model X.prog X.w) X.A X.xe use Q' (.ref A) C (.ok .next) s4
theorem zBf(hc:X.calm=true/\TB X.K X.mg G.Bi G.B)(hr:Room k X.A)(Bk:BlkOk X x scope)(hN:X.N.Nodup)(h0:("" : Str)∉X.N)(hx0:x≠("" : Str))(hi:PId X G (.Name x px) iter it)
  (hb:∀(C:Addr)(s₂:Shared)(H₂:Hp)(fp:List Addr)(G':Gx),Good (cxC X x scope C s₂ H₂ fp) G' k->PTs (cxC X x scope C s₂ H₂ fp) G' ifs t/\PEd (cxC X x scope C s₂ H₂ fp) G' elt f)
  (hs:∀ x,foldedSetIterable iter X.env x=pure x:=by intro _;rfl)
  {pins:List (Addr×Obj)} {s:Shared} {σ:St} {H Hi:Hp} {ρ:Rho} {use:Option (Value->Sem Unit)} {Q':Value->Shared->Prop} {Qa:Addr->Hp->Prop} {cpos:Pos} (I:Inv X pins σ H s) (R:lN X G Hi H σ ρ)
  (ou:Out G Hi H ((jE it t f) ρ) fun ds Hi' H'=>∀ a,zJJ X.K H Hi' H' a ds->Qa a H') (hend:zQZ X pins σ use Q' Qa):
  wpAny (model X.prog X.w) X.A (comprehension (.ListComp elt [⟨.Name x px,iter,ifs,0⟩] scope pos) scope X.env cpos (newList []) false (eval iter X.env) use) Q' X.xe s:=by
 refine wpAny_comprehension_free (use:=use) rfl hs (zLt (Bk.cl I)) Bk.kind Bk.names ?_
 refine thn (hi pins s σ H (fun J H2=>∃ ds Hi2,Ext Hi H Hi2 H2/\wK X.K Hi2 J ds/\Out G Hi2 H2 (if ds.length<=16777215 then iC t f ρ ds else .no) fun ds Hi' H'=>∀ a,zJJ X.K H Hi' H' a ds->Qa a H') I
  ⟨ρ,Hi,R,(Out.bind ou).imp fun ds Hi2 H2 e2 o2 J gv=>⟨ds,Hi2,e2,gv,o2⟩⟩) fun v s1 h1=>thn h1 fun itv s2 h2=>?_
 obtain⟨itA,fp,tn,J,H2,rfl,I2,T,st2,f2,ds,Hi2,e2,gv,ou2⟩:=h2
 have hlen:ds.length<=16777215:=by
  by_cases hlen:ds.length<=16777215
  ·exact hlen
  ·rw[if_neg hlen] at ou2;exact ou2.elim
 rw[if_pos hlen] at ou2
 cases hes:iC t f ρ ds with
 | no=>rw[hes] at ou2;exact ou2.elim
 | err c=>exact absurd hes zP
 | ok es=>
  rw[hes] at ou2;have R2:lN X G Hi2 H2 σ ρ:=R.grow e2;refine wpAny_newObj_type (wpAny_newFunctionEnv Bk.cell (by intro y hy;simp at hy) (fun h₁ hns₁ hsb₁=>?_) Bk.kind)
  dsimp only at hns₁ hsb₁ ⊢
  generalize hH2:s2.heap.push { cls:=.type "list", dict:=none,data:=.seq ([]:List Value).toArray }=HP at hns₁ hsb₁ ⊢;have hC:HP.objs.size=s2.heap.objs.size+1:=by rw[<-hH2,Heap.size_push]
  have hDC:s2.heap.objs.size≠HP.objs.size:=by rw[hC];omega
  have ltC:∀ {b:Addr} {o:Obj},s2.heap.get? b=some o->b≠HP.objs.size:=fun e=>by rw[hC];exact Qs (VD (Heap.lt_size e))
  have old:∀ b o,s2.heap.get? b=some o->h₁.get? b=some o:=fun b o e=>hsb₁.extBut b o (ltC e) (Heap.get?_push_of_some _ (hH2 ▸ Heap.get?_push_of_some _ e))
  have hacc:h₁.get? s2.heap.objs.size=some { cls:=.type "list", data:=.seq ([]:List Value).toArray 0 }:=hsb₁.extBut _ _ hDC (Heap.get?_push_of_some _ (hH2 ▸ Heap.get?_push_size _ rfl));have hfl:∀ b∈fp,b < s2.heap.objs.size:=fun b hb=>by obtain⟨o,e,_⟩:=T.obj _ _ st2 b hb;exact Heap.lt_size e
  have IE:=zQM (t:=s2.toks+([]:List (Str×Value)).length) I2 Bk f2 hfl (Qh _) (by rw[hC];omega) hDC old hacc hns₁
  have sub:=uA scope.names [] (Bk.cl I2) (fun y c e=>nomatch e)
  have H2D:H2 s2.heap.objs.size=none:=I2.hok.fresh (Qh _);have HD:H s2.heap.objs.size=none:=e2.h.none H2D;have Hi2D:Hi2 s2.heap.objs.size=none:=e2.s.none H2D;generalize hX:cxC X x scope HP.objs.size s2 H2 fp=Y at IE
  have GY:Good Y ⟨G.B,G.Bi,fun _ _=>False⟩ k:=by
   subst hX;exact⟨hc.1,hr,fun pins σ H s e s' _ h=>by obtain⟨_,_,_,_,_,c,_,z⟩:=h;exact z.elim,PassesOwn.never,hc.2⟩
  obtain⟨hts,hel⟩:=(hX ▸ hb HP.objs.size s2 H2 fp ⟨G.B,G.Bi,fun _ _=>False⟩ (hX.symm ▸ GY):PTs Y ⟨G.B,G.Bi,fun _ _=>False⟩ ifs t/\PEd Y ⟨G.B,G.Bi,fun _ _=>False⟩ elt f)
  have stat:∀ {H':Hp},(∀ b∈fp,H' b=none)->∀ b∈fp,sM Y pins H' b:=fun hn b hb=>by
   subst hX;refine⟨hn b hb,?_,fun z=>?_,.inl hb,fun y c e=>(f2 b hb).2.2.2.2.1 y c (sub y c e),(f2 b hb).2.2.2.2.2⟩
   ·show b≠HP.objs.size
    rw[hC];exact Qs (VD (hfl b hb))
   ·rcases Qe.mp (I2.stkSub b z) with w | w
    ·exact(f2 b hb).2.1 w
    ·exact(f2 b hb).2.2.1 w
  have YN:Y.N.Nodup:=by subst hX;exact zIP hN h0 hx0
  have Yx:Y.N[σ.length]?=some x:=by
   subst hX;show(X.N.map (msk x)++[x])[σ.length]?=some x
   rw[QU (by rw[Qg,I2.len];omega),Qg,I2.len,VY];rfl
  have Yl:Y.env.scope.names.lookup x=some .local:=by subst hX;exact lookup_relabel_local Bk.loc
  have Ye:Y.env=compEnvC scope (zCB X.env scope.names []) HP.objs.size X.env:=by subst hX;rfl
  have Yxe:∀ e s,¬ Y.xe e s:=by subst hX;exact fun _ _ h=>h
  have tn1:tn 0 h₁:=T.keep _ _ _ st2 fun b _ o e=>old b o e
  have gO:∀ s3:Shared,s3={ s2 with heap:=h₁,toks:=s2.toks+([]:List (Str×Value)).length }->
    codeAny (model X.prog X.w) X.A (.compLoop (.ListComp elt [⟨.Name x px,iter,ifs,0⟩] scope pos) 0 (.ref itA) (.ref s2.heap.objs.size) Y.env) (compPost (model X.prog X.w) X.A X.xe use Q' (.ref s2.heap.objs.size) HP.objs.size) s3:=by
   rintro s3 rfl
   subst hX
   have fr0:∀ b∈fp,upd H2 s2.heap.objs.size (.lst []) b=none:=fun b hb=>by
    rw[bA (Qs (hfl b hb))];exact(f2 b hb).1
   refine codeAny_compLoop_tests (fun n s'=>∃ c:CW,n=ds.length - c.i/\CS (cxC X x scope HP.objs.size s2 H2 fp) pins σ tn fp Hi2 H2 s2.heap.objs.size 1 (fun i=>iC t f ρ (ds.drop i)) es c s') ?_ ds.length
    ⟨⟨0,[none],_,Hi2,[],[],es⟩,rfl,⟨IE,rfl,tn1,fr0,(Ext.refl e2.s).trans (Ext.newF e2.s H2D),bB,Hi2D,.nil,Qh _,hes,rfl⟩⟩
   ·rintro n s3 ⟨⟨i,vv,H3,Hi3,ys,done,rest⟩,rfl,I3,wd3,st3,fr3,e3,hD3,hiD3,rd3,hl3,hr3,hes3⟩
    dsimp only at I3 wd3 st3 fr3 e3 hD3 hiD3 rd3 hl3 hr3 hes3 ⊢
    obtain⟨v,rfl⟩:∃ v,vv=[v]:=by
     match vv,wd3 with
     | [v],_=>exact⟨v,rfl⟩
    obtain⟨w1,w2⟩:=gv Hi3 H3 e3.i e3.s i;have lift:∀ {α:Type} {m:Sem α} {Q':α->Shared->Prop} {E:Value->Shared->Prop} {s':Shared},wpAny (model X.prog X.w) X.A m Q' (cxC X x scope HP.objs.size s2 H2 fp).xe s'->wpAny (model X.prog X.w) X.A m Q' E s':=fun h=>wpAny_mono h (fun _ _ z=>z) fun e s z=>(Yxe e s z).elim
    by_cases hlt:i < ds.length
    ·obtain⟨d,hd⟩:∃ d,ds[i]?=some d:=⟨_,Qn hlt⟩
     obtain⟨go,yl⟩:=w2 d hd
     have e4:ds.drop i=d::ds.drop (i+1):=by
      rw[Qn hlt] at hd;cases hd;exact XY hlt
     rw[e4] at hr3;refine thn (T.item (cxC X x scope HP.objs.size s2 H2 fp) rfl rfl rfl hc.1 i pins s3 _ H3 _ I3 (stat fr3) st3 go) fun r s4 ⟨u,hru,h4⟩=>?_
     subst hru;refine zME h4 fun s5 h5=>?_
     obtain⟨xv,H5,I5,r5,y5,st5,fr5⟩:=h5;obtain⟨Hi5,e5,rd5⟩:=yl xv H5 y5;have I5':=I5.pinned (stat fr5) (T.obj _ _ st5);refine wpAny_assign_Name (sP I5' YN Yx (.inl Yl) r5 (fun s6 I6=>?_) (.inr Yl))
     have es6:(σ++[v]).set σ.length (some xv)=σ++[some xv]:=by rw[XZ _ _ (Qh _),VY];rfl
     rw[es6] at I6;have E5:Ext Hi2 H2 Hi5 H5:=e3.trans e5;have R5:lN (cxC X x scope HP.objs.size s2 H2 fp) ⟨G.B,G.Bi,fun _ _=>False⟩ Hi5 H5 (σ++[some xv]) (ρ++[.val d]):=Rel.snoc (R2.grow E5) rd5
     obtain⟨hD5,hiD5⟩:=e5.out hD3 hiD3;have rd5':=rd3.mono e5.i
     have again:∀ {H8 Hi8:Hp} {ys':List V} {done' rest':List D} {s8:Shared},Inv (cxC X x scope HP.objs.size s2 H2 fp) (pins++uW fp s5.heap) (σ++[some xv]) H8 s8->Ext Hi2 H2 Hi8 H8->H8 s2.heap.objs.size=some (.lst ys')->Hi8 s2.heap.objs.size=none->IsDs X.K Hi8 ys' done'->done'.length<=i+1->
       iC t f ρ (ds.drop (i+1))=.ok rest'->es=done'++rest'->∃ m,m < ds.length - i/\∃ c:CW,m=ds.length - c.i/\CS (cxC X x scope HP.objs.size s2 H2 fp) pins σ tn fp Hi2 H2 s2.heap.objs.size 1 (fun i=>iC t f ρ (ds.drop i)) es c s8:=fun {H8 Hi8 ys' done' rest' s8} I8 E8 a1 a2 a3 a4 a5 a6=>by
      refine⟨ds.length - (i+1),by omega,⟨i+1,[some xv],H8,Hi8,ys',done',rest'⟩,rfl,⟨I8.unpinned,rfl,T.keep _ _ _ st5 fun b hb o e=>(I8.pin (b,o) (Qz _ (Qz _ (fK hb e)))).1,fun b hb=>?_,E8,a1,a2,a3,a4,a5,a6⟩⟩
      obtain⟨o,e,_⟩:=T.obj _ _ st5 b hb;exact(I8.pin (b,o) (Qz _ (Qz _ (fK hb e)))).2.1
     rcases zFW hr3 with⟨ht,hr4⟩ | ⟨ht,e,es',hf,hr4,hee⟩
     ·refine lift (thn (hts _ s6 _ H5 (fun b H'=>b=false/\∃ Hi',Ext Hi5 H5 Hi' H') I6 ⟨_,Hi5,R5,by rw[ht];exact fun Hi' H' e=>⟨rfl,Hi',e⟩⟩) fun b s7 h7=>?_)
      obtain⟨H7,I7,rfl,Hi7,e7⟩:=h7;obtain⟨hD7,hiD7⟩:=e7.out hD5 hiD5;exact again I7 (E5.trans e7) hD7 hiD7 (rd5'.mono e7.i) (by omega) hr4 hes3
     ·refine lift (thn (hts _ s6 _ H5 (fun b H'=>b=true/\∃ Hi',Ext Hi5 H5 Hi' H') I6 ⟨_,Hi5,R5,by rw[ht];exact fun Hi' H' e=>⟨rfl,Hi',e⟩⟩) fun b s7 h7=>?_)
      obtain⟨H7,I7,rfl,Hi7,e7⟩:=h7;obtain⟨hD7,hiD7⟩:=e7.out hD5 hiD5;simp only[if_true];refine lift (thn (hel _ s7 _ H7 (fun w H'=>∃ Hi',Ext Hi7 H7 Hi' H'/\IsD X.K Hi' w e) I7 ⟨_,Hi7,R5.grow e7,by rw[hf];exact fun Hi' H' ee w hw=>⟨Hi',ee,hw⟩⟩) fun u8 s8 h8=>?_)
      obtain⟨w8,H8,I8,r8,Hi8,e8,rw8⟩:=h8;obtain⟨hD8,hiD8⟩:=e8.out hD7 hiD7;have rdy:IsDs X.K Hi8 ys done:=(rd5'.mono e7.i).mono e8.i;refine lift (thn (vF (X:=(cxC X x scope HP.objs.size s2 H2 fp)) _ s8 _ H8 (.ref s2.heap.objs.size) [w8] (.ref s2.heap.objs.size) [u8] (fun _ H'=>H'=upd H8 s2.heap.objs.size (.lst (ys++[w8]))) I8 rfl (.cons r8 .nil) ⟨_,ys,w8,rfl,rfl,hD8,?_,rfl⟩) fun _ s9 h9=>?_)
      ·rw[rdy.length]
       exact Vp hl3 (Qo hlt (QB hlen (by decide)))
      ·obtain⟨_,H9,I9,_,rfl⟩:=h9
       refine again I9 (Ext.rewrite ((E5.trans e7).trans e8) H2D hiD8 ⟨_,hD8⟩) bB hiD8 (rdy.snoc rw8) (by rw[Ql];exact XM hl3) hr4 ?_
       rw[hes3,hee,Q9];rfl
    ·rw[Xc (by omega),iC] at hr3
     cases hr3;refine thn (T.done (cxC X x scope HP.objs.size s2 H2 fp) rfl rfl rfl hc.1 i pins s3 _ H3 _ I3 (stat fr3) st3 (w1 (by omega))) fun r s4 ⟨hrn,I4⟩=>?_
     subst hrn;obtain⟨m4,hn4,_⟩:=I4.loc;have fC:H3 HP.objs.size=none:=I4.free;have nC:∀ b u,H3 b=some u->b≠HP.objs.size:=fun b u e z=>by rw[z,fC] at e;cases e
     have U4:=I4.base;refine hend HP.objs.size s2.heap.objs.size m4 s4 H3 hn4 (fun h' hs'=>?_) (I2.fpOk (by rw[hC];omega) fC) ?_
     ·have kp:∀ b o,b≠HP.objs.size->s4.heap.get? b=some o->h'.get? b=some o:=fun b o hb e=>hs'.extBut b o hb e
      refine Inv.call' I2 (ch:=fp) I4.os ⟨fun b o e n hb hx=>kp b o (ltC e) (U4.keep b o e n hb hx),fun b o e n hb hx=>?_,U4.free,fun b o e hx=>?_,U4.tups,U4.frzs,U4.tbls⟩ (fun b u e=>?_) I4.bare (fun b hb=>⟨(f2 b hb).2.2.2.1,(f2 b hb).2.1,(f2 b hb).2.2.2.2.1,(f2 b hb).2.2.2.2.2⟩)
      ·obtain⟨sl,q⟩:=U4.slot b o e n hb hx
       exact⟨sl,kp b _ (ltC e) q⟩
      ·obtain⟨o',q⟩:=U4.there b o e hx
       exact⟨o',kp b _ (ltC e) q⟩
      ·refine(I4.hok b u e).stay (fun c v hc q=>kp c v ?_ q) (fun _ q=>q) fun _ _ q=>q
       rcases hc with z | z
       ·rw[z];exact nC b u e
       ·exact nC c _ z
     ·refine ou2 Hi3 H3 e3 _ ⟨HD,hiD3,ys,hD3,?_⟩
      rw[hes3,QS];exact rd3
  rw[Ye] at gO;exact codeAny_compStart_list (gO _ rfl) (T.self _ 0 _ _ _ tn1 (gO _ rfl))
theorem zNz(hc:X.calm=true/\TB X.K X.mg G.Bi G.B)(hr:Room k X.A)(Bk:BlkOk X x scope)(hN:X.N.Nodup)(h0:("" : Str)∉X.N)(hx0:x≠("" : Str))(hi:PId X G (.Name x px) iter it)
  (hb:∀(C:Addr)(s₂:Shared)(H₂:Hp)(fp:List Addr)(G':Gx),Good (cxC X x scope C s₂ H₂ fp) G' k->PTs (cxC X x scope C s₂ H₂ fp) G' ifs t/\PEd (cxC X x scope C s₂ H₂ fp) G' elt f)
  (hs:∀ x,foldedSetIterable iter X.env x=pure x:=by intro _;rfl):PEf X G (.ListComp elt [⟨.Name x px,iter,ifs,0⟩] scope pos) (jE it t f):=by
 intro pins s σ H Q I w;obtain⟨ρ,Hi,R,ou⟩:=w;rw[eval_ListComp];refine zBf hc hr Bk hN h0 hx0 hi hb hs (use:=none) (Qa:=fun a H'=>Q (.ref a) H') I R ou fun C A m s4 H3 hn hI _ q=>?_
 exact⟨m,hn,fun h' hs'=>⟨.ref A,H3,hI h' hs',rfl,q⟩⟩
def PC(X:Cx)(e:Expr)(t:TE):Prop:=∀(pins:List (Addr×Obj))(s:Shared)(σ:St)(H:Hp)(Q:VK),Inv X pins σ H s->t σ H Q->∀(u:Value->Sem Unit)(Q':Unit->Shared->Prop),
 (∀(C:Addr)(m:Str->Option Value)(s4:Shared)(v:V)(w:Value)(H3:Hp),s4.heap.Ns C m->(∀ h',Heap.SameBut C s4.heap h'->Inv X pins σ H3 { s4 with heap:=h' })->sM X pins H3 C->dE v w->Q v H3->
  wpAny (model X.prog X.w) X.A (u w) (fun _ s''=>∃ m,s''.heap.Ns C m/\∀ h',Heap.SameBut C s''.heap h'->Q' () { s'' with heap:=h' }) X.xe s4)->wpAny (model X.prog X.w) X.A (evalThenUse e X.env u) Q' X.xe s
theorem PC.wk{X:Cx}{e:Expr}{t t':TE}(h:PC X e t)(w:∀ σ H Q,t' σ H Q->t σ H Q):PC X e t':=fun pins s σ H Q I q=>h pins s σ H Q I (w σ H Q q)
@[irreducible] def PCd (X:Cx) (G:Gx) (e:Expr) (f:Ev):Prop:=PC X e (tD X G f)
unseal PCd
@[irreducible] def PCf (X:Cx) (G:Gx) (e:Expr) (f:Fv):Prop:=PC X e (tF X G f)
unseal PCf
theorem zMU(hc:X.calm=true/\TB X.K X.mg G.Bi G.B)(hr:Room k X.A)(Bk:BlkOk X x scope)(hN:X.N.Nodup)(h0:("" : Str)∉X.N)(hx0:x≠("" : Str))(hi:PId X G (.Name x px) iter it)
  (hb:∀(C:Addr)(s₂:Shared)(H₂:Hp)(fp:List Addr)(G':Gx),Good (cxC X x scope C s₂ H₂ fp) G' k->PTs (cxC X x scope C s₂ H₂ fp) G' ifs t/\PEd (cxC X x scope C s₂ H₂ fp) G' elt f)
  (hs:∀ x,foldedSetIterable iter X.env x=pure x:=by intro _;rfl):PCf X G (.ListComp elt [⟨.Name x px,iter,ifs,0⟩] scope pos) (jE it t f):=by
 intro pins s σ H Q I w u Q' hend;obtain⟨ρ,Hi,R,ou⟩:=w;rw[arm_evalThenUse_ListComp];refine wpAny_bind (zBf hc hr Bk hN h0 hx0 hi hb hs (use:=some u) (Q':=fun _ s=>wpAny (model X.prog X.w) X.A (pure ()) Q' X.xe s) (Qa:=fun a H'=>Q (.ref a) H') I R ou fun C A m s4 H3 hn hI fo q=>?_)
 refine thn (hend C m s4 (.ref A) (.ref A) H3 hn hI fo rfl q) fun _ s5 h5=>?_
 obtain⟨m5,hn5,h5⟩:=h5;exact⟨m5,hn5,fun h' hs'=>wpAny_pure (h5 h' hs')⟩
theorem PCf.d(h:PCf X G e fs):PCd X G e (eF fs):=PC.wk h fun σ H Q q=>by
 obtain⟨ρ,Hi,R,ou⟩:=q;refine⟨ρ,Hi,R,?_⟩
 cases z:fs ρ with
 | no=>unfold eF at ou;rw[z] at ou;exact ou
 | err c=>unfold eF at ou;rw[z] at ou;exact ou
 | ok ds=>
  unfold eF at ou;rw[z] at ou
  intro Hi1 H1 e1 a n;obtain⟨n1,n2,xs,n3,n4⟩:=n;have o2:∀ Hi' H',Ext Hi H Hi' H'->∀ v,IsD X.K Hi' v (.lst ds)->Q v H':=ou;exact o2 _ _ (e1.hold n1 n3 n2) (.ref a) (.lst (SqL.of bB) (n4.mono (dB n2 _)))
theorem zMj{i:Nat}{y:Str}{e:Expr}{te:TE}{pos' pos:Pos}(hN:X.N.Nodup)(hi:X.N[i]?=some y)(hx:Loc X.env.scope y)(he:PC X e te)(hs:swapsWith e (some (.Name y pos')) pos.line X.env=pure true)
  (hf:X.fn y=true∨X.env.scope.names.lookup y=some .local):PS X (.Assign [.Name y pos'] e pos) (zQz te (L2.gName i)):=by
 intro pins s σ H E I h;rw[exec_Assign_Name_used _ _ _ _ hs];refine wpAny_bind (wpAny_standAt (wpAny_bind ?_))
 refine he pins s σ H _ I h _ _ fun C m s4 v w H3 hn hI fo r q=>?_
 have I4:Inv X pins σ H3 s4:=hI s4.heap (Heap.SameBut.refl _ _);refine wpAny_assign_Name (zBL I4 hN hi hx r (fun s5 I5 sb=>?_) hf)
 obtain⟨a,sb,ha⟩:=sb
 have aC:C≠a:=by
  rcases ha with rfl | ha
  ·exact fo.2.1
  ·exact fun z=>fo.2.2.2.2.1 y a ha z.symm
 refine⟨m,hn.sameBut sb aC,fun h' hs'=>wpAny_pure ?_⟩
 have fC:=fo.1;have nC:∀ b u,H3 b=some u->b≠C:=fun b u e z=>by rw[z,fC] at e;cases e
 have kp:∀ b o,b≠C->s5.heap.get? b=some o->h'.get? b=some o:=fun b o hb e=>hs'.extBut b o hb e
 refine⟨σ.set i (some v),H3,?_,q⟩
 refine Inv.call' I5 (ch:=[C]) rfl ⟨fun b o e n hb hx=>kp b o (by simpa using hx) e,fun b o e n hb hx=>⟨o.slots,kp b _ (by simpa using hx) e⟩,fun b o e n hx=>n,fun b o e hx=>⟨o,kp b _ (by simpa using hx) e⟩,fun _ _ q=>q,fun _ _ _ q=>q,fun _ ps q=>⟨#[],by simpa using q⟩⟩ (fun b u e=>?_) I5.bare (fun b hb=>?_)
 ·refine(I5.hok b u e).stay (fun c v hc q=>kp c v ?_ q) (fun _ q=>q) fun _ _ q=>q
  rcases hc with z | z
  ·rw[z];exact nC b u e
  ·exact nC c _ z
 ·have e:b=C:=by simpa using hb
  subst e;exact⟨fo.2.2.2.1,fo.2.1,fo.2.2.2.2.1,fo.2.2.2.2.2⟩
theorem zKR{i:Nat}{y:Str}{e:Expr}{f:Ev}{pos' pos:Pos}(hN:X.N.Nodup)(hi:X.N[i]?=some y)(hx:Loc X.env.scope y)(he:PCd X G e f)(hs:swapsWith e (some (.Name y pos')) pos.line X.env=pure true)
  (hf:X.fn y=true∨X.env.scope.names.lookup y=some .local:=by first | exact .inl rfl | exact .inr rfl | assumption):PSd X G (.Assign [.Name y pos'] e pos) (cX i f):=PS.wk (zMj hN hi hx he hs hf) fun E σ H q=>by
 obtain⟨ρ,Hi,R,h⟩:=q;exact⟨ρ,Hi,R,nN R h fun d Hi' H' _ e h' v r=>h' _ Hi' H' (Same.refl _) ((R.grow e).set r)⟩
end
end L3
namespace L3
open PySem PySem.Spec PyProof.Rows L2
unseal PEd PEf PTd PWd PAd PSd fO POd PGd jJ PId PSx nS PTs PCd PCf
def zPQ(sc:Scope)(N:List Str)(x:Str)(scope:Scope):Bool:=
 scope.names.all (fun y=>y.2 != .cell) && scope.names.lookup x==some .local && scope.names.all (fun y=>y.2 != .local || scope.names.lookup y.1==some .local)
  && scope.names.all (fun p=>p.2 != .free || (sc.names.lookup p.1==some .cell || sc.names.lookup p.1==some .free)) && N.all (fun y=>y==x || scope.names.lookup y != some .local) && (scope.names.lookup ("" : Str)).isNone && !N.contains ("" : Str) && x != ("" : Str)
section
variable{X:Cx}{G:Gx}{elt iter:Expr}{x:Str}{px pos:Pos}{ifs:List Expr}{scope sc:Scope}{it:Fv}{t:Tv}{f:Ev}{k:Nat}{N:List Str}
theorem zKF(hk:scope.kind=.function)(hsc:X.env.scope=sc)(hN:X.N=N)(h:zPQ sc N x scope=true):BlkOk X x scope/\("" : Str)∉X.N/\x≠("" : Str):=by
 unfold zPQ at h;simp only[Va] at h;obtain⟨⟨⟨⟨⟨⟨⟨h1,h2⟩,h3⟩,h4⟩,h5⟩,h6⟩,h7⟩,h8⟩:=h;subst hN hsc;refine⟨⟨hk,fun y hy e=>?_,beq_iff_eq.mp h2,fun y hy e=>?_,fun p hp e=>?_,fun y hy hne e=>?_,?_⟩,fun z=>?_,fun z=>?_⟩
 ·have:=Vl.mp h1 y hy
  rw[e] at this;cases this
 ·have:=Vl.mp h3 y hy
  rw[e] at this;simpa using this
 ·have:=Vl.mp h4 p hp
  rw[e] at this;have q:X.env.scope.names.lookup p.1=some .cell∨X.env.scope.names.lookup p.1=some .free:=by simpa using this
  exact q
 ·have:=Vl.mp h5 y hy
  rw[e] at this;simp[hne] at this
 ·simpa using h6
 ·have:X.N.contains ("" : Str)=true:=by simpa using z
  rw[this] at h7;cases h7
 ·rw[z] at h8;simp at h8
theorem eX(W:Good X G k)(hnd:N.Nodup)(hk:scope.kind=.function)(hsc:X.env.scope=sc)(hN:X.N=N)(h:zPQ sc N x scope=true)(hi:PId X G (.Name x px) iter it)
  (hb:∀(C:Addr)(s₂:Shared)(H₂:Hp)(fp:List Addr)(G':Gx),Good (cxC X x scope C s₂ H₂ fp) G' k->PTs (cxC X x scope C s₂ H₂ fp) G' ifs t/\PEd (cxC X x scope C s₂ H₂ fp) G' elt f)
  (hs:∀ x,foldedSetIterable iter X.env x=pure x:=by intro _;rfl):PEf X G (.ListComp elt [⟨.Name x px,iter,ifs,0⟩] scope pos) (jE it t f):=by
 obtain⟨b,h0,hx⟩:=zKF hk hsc hN h;exact zNz ⟨W.calm,W.tb⟩ W.room b (hN ▸ hnd) h0 hx hi hb hs
theorem zFa(W:Good X G k)(hnd:N.Nodup)(hk:scope.kind=.function)(hsc:X.env.scope=sc)(hN:X.N=N)(h:zPQ sc N x scope=true)(hi:PId X G (.Name x px) iter it)
  (hb:∀(C:Addr)(s₂:Shared)(H₂:Hp)(fp:List Addr)(G':Gx),Good (cxC X x scope C s₂ H₂ fp) G' k->PTs (cxC X x scope C s₂ H₂ fp) G' ifs t/\PEd (cxC X x scope C s₂ H₂ fp) G' elt f)
  (hs:∀ x,foldedSetIterable iter X.env x=pure x:=by intro _;rfl):PCf X G (.ListComp elt [⟨.Name x px,iter,ifs,0⟩] scope pos) (jE it t f):=by
 obtain⟨b,h0,hx⟩:=zKF hk hsc hN h;exact zMU ⟨W.calm,W.tb⟩ W.room b (hN ▸ hnd) h0 hx hi hb hs
end
section
variable{X:Cx}{G:Gx}{a b:Expr}{pos:Pos}{f:Fv}{g:Ev}
theorem zOE:vR X (fun xs H Q=>(∃ i,xs=[.int i]/\Q (.int i) H)∨∃ k,xs=[.bl k]/\Q (.int (if k then 1 else 0)) H) zPb:=⟨fun a c z=>(by
  unfold zPb at z;split at z<;>cases z),fun Hi H vs ds d Q s r z q=>by
  unfold zPb at z;split at z
  ·cases z
   obtain⟨v,rfl,h⟩:=r.one;exact .inl ⟨_,by rw[h.intI],q _ Hi H (Ext.refl s) (.int _)⟩
  ·cases z
   obtain⟨v,rfl,h⟩:=r.one;exact .inr ⟨_,by rw[h.blI],q _ Hi H (Ext.refl s) (.int _)⟩
  ·cases z⟩
theorem IsDs.rep{K:PySem.W.Frag}{H:Hp}{xs:List V}{ds:List D}(h:IsDs K H xs ds):∀ n:Nat,IsDs K H (List.replicate n xs).flatten (List.replicate n ds).flatten
 | 0=>.nil
 | n+1=>by
  rw[Vy,Vy,VI,VI];exact h.append (IsDs.rep h n)
theorem zDP(ha:PEf X G a f)(hb:PEd X G b g):PEf X G (.BinOp a .Mult b pos) (zMi f g):=PE.wk (zIG zPA ha hb) fun σ H Q q=>by
 obtain⟨ρ,Hi,R,ou⟩:=q;refine⟨ρ,Hi,R,(Out.bind ou).imp fun ds Hi1 H1 e1 o1 l nl=>?_⟩
 refine⟨ρ,Hi1,R.grow e1,(Out.bind o1).imp fun d Hi2 H2 e2 o2 v rv=>?_⟩
 cases d<;>first | exact o2.elim | skip
 rename_i k
 obtain⟨n1,n2,xs,n3,n4⟩:=nl;have o2':Out G Hi2 H2 (if 0<=k/\k < 2^62/\ds.length * k.toNat<=16777216 then Res.ok (List.replicate k.toNat ds).flatten else .no) _:=o2;by_cases hz:0<=k/\k < 2^62/\ds.length * k.toNat<=16777216
 ·rw[if_pos hz] at o2'
  refine⟨l,k,xs,rfl,rv.intI,e2.h.at n3,by omega,by omega,by rw[n4.length];exact hz.2.2,fun p hp=>?_⟩
  exact o2' _ _ (Ext.newF e2.s hp) p ⟨(e1.h.trans e2.h).none hp,e2.s.none hp,_,bB,(n4.mono e2.i).rep _⟩
 ·rw[if_neg hz] at o2';exact o2'.elim
end
section
variable{es r:List Expr}{a b f:Expr}{k:Nat}{p:Pos}{x:Str}{c:Const}{env:Env}
theorem mW:starEach (.Tuple es k p::r) env=(false,eval (.Tuple es k p) env)::starEach r env:=rfl
theorem zEK:starEach (.List es p::r) env=(false,eval (.List es p) env)::starEach r env:=rfl
theorem bK{o:Operator}:starEach (.BinOp a o b p::r) env=(false,eval (.BinOp a o b p) env)::starEach r env:=rfl
theorem aR:starEach (.Subscript a b p::r) env=(false,eval (.Subscript a b p) env)::starEach r env:=rfl
theorem aD:starEach (.Name x p::r) env=(false,eval (.Name x p) env)::starEach r env:=rfl
theorem bL:starEach (.Constant c k p::r) env=(false,eval (.Constant c k p) env)::starEach r env:=rfl
theorem aN{ks:List Keyword}:starEach (.Call f es ks p::r) env=(false,eval (.Call f es ks p) env)::starEach r env:=rfl
end
section
variable{X:Cx}{G:Gx}{e st:Expr}{te tk:TE}{lo hi:Option Expr}{tl th:TO}{pos p2:Pos}{f g:Ev}{l h:Ov}
end
end L3
set_option maxRecDepth 100000
namespace L3
open PySem PySem.Spec PyProof.Rows L2
section
variable{prog:Program}{w:World}{A:Around}{E:Value->Shared->Prop}{s:Shared}
end
theorem zKk:bootBuiltins "reversed" = some (.type "reversed"):=by first | rfl | decide +kernel
section
unseal PEd PEf PTd PWd PAd PSd fO POd PGd jJ PId PSx nS PTs PCd PCf
variable{X:Cx}{G:Gx}{fs:Fv}{f:Ev}
end
end L3
namespace L3
open PySem PySem.Spec PyProof.Rows L2
unseal PEd PEf PTd PWd PAd PSd fO POd PGd jJ PId PSx nS PTs PCd PCf
section
variable{X:Cx}{G:Gx}
def zRu(K:PySem.W.Frag):List V->Hp->VK->Prop:=fun xs H Q=>∃(a:Addr)(ns:List Int),xs=[.ref a]/\(SqL K H a (ns.map V.int)∨SqT K H a (ns.map V.int))/\Q (.int ns.sum) H
theorem tQ(ns:List Int):∀ j,preSum (fun i=>ns.getD i 0) j=(ns.take j).sum
 | 0=>by rw[X0];rfl
 | j+1=>by
  rw[preSum,tQ ns j,XL];rw[Qy]
  cases ns[j]? with
  | none=>simp
  | some x=>simp
theorem xZ{ns:List Int}{its:List Value}(r:dR (ns.map V.int) its){i:Nat}{v:Value}(h:its[i]?=some v):∃ t,v=.int (ns.getD i 0) t:=by
 have hl:=r.length;rw[Qg] at hl;have hi:=(Qx.mp h).1
 have hx:(ns.map V.int)[i]?=some (.int (ns.getD i 0)):=by
  rw[Qt,Qy,Qn (by omega)];rfl
 obtain⟨u,hu,ru⟩:=r.get hx;rw[h] at hu;cases hu;exact ru
theorem jL(hc:X.calm=true):uO X (.builtin "sum") (zRu X.K):=by
 intro pins s σ H xs us Q I r h;obtain⟨a,ns,rfl,hq,q⟩:=h;obtain⟨u,rfl,ru⟩:=r.one;cases ru;have hh:=I.ok.hd hc;rcases hq with hq | hq
 ·obtain⟨its,rv,p,hz⟩:=I.list hq
  have hlt:a < s.heap.objs.size:=by obtain⟨_,e,_⟩:=p.isList;exact Heap.lt_size e
  have hl:=rv.length;rw[Qg] at hl;refine call_sum_walkG (wpAny_pyIter_list p.isList ?_)
  refine⟨s.heap.objs.size,_,_,_,_,_,fun i=>ns.getD i 0,rfl,Walks.list (A:=X.A.in1) hh s.heap.objs.size a (Qs hlt) its.toArray,⟨⟨_,Heap.get?_push_size _ rfl,rfl,rfl⟩,p.isList.push _⟩,fun b hb=>?_,fun i v hv=>xZ rv (by simpa using hv),fun h' tk t' hk=>?_⟩
  ·show b < (s.heap.push _).objs.size
   rw[Heap.size_push];rcases Qe.mp hb with rfl | hb
   ·exact QT _
   ·rcases Qe.mp hb with rfl | hb
    ·exact VD hlt
    ·cases hb
  ·refine⟨.int ns.sum,H,I.kept (t':=tk) fun b o e=>hk b o (fun z=>?_) (Heap.get?_push_of_some _ e),⟨t',?_⟩,q⟩
   ·have z':b=s.heap.objs.size:=by simpa using z
    have l:=Heap.lt_size e;rw[z'] at l;exact Vh _ l
   ·rw[Qk,<-hl,tQ,Vc]
 ·obtain⟨its,rv,p,hz⟩:=I.tuple hq
  have p':s.heap.IsTuple a its.toArray:=p;have hlt:a < s.heap.objs.size:=by obtain⟨_,e,_⟩:=p';exact Heap.lt_size e
  have hl:=rv.length;rw[Qg] at hl;refine call_sum_walkG (wpAny_pyIter_tuple p' ?_)
  refine⟨s.heap.objs.size,_,_,_,_,_,fun i=>ns.getD i 0,rfl,Walks.tuple (A:=X.A.in1) hh s.heap.objs.size a (Qs hlt) its.toArray,⟨⟨_,Heap.get?_push_size _ rfl,rfl,rfl⟩,p'.push _⟩,fun b hb=>?_,fun i v hv=>xZ rv (by simpa using hv),fun h' tk t' hk=>?_⟩
  ·show b < (s.heap.push _).objs.size
   rw[Heap.size_push];rcases Qe.mp hb with rfl | hb
   ·exact QT _
   ·rcases Qe.mp hb with rfl | hb
    ·exact VD hlt
    ·cases hb
  ·refine⟨.int ns.sum,H,I.kept (t':=tk) fun b o e=>hk b o (fun z=>?_) (Heap.get?_push_of_some _ e),⟨t',?_⟩,q⟩
   ·have z':b=s.heap.objs.size:=by simpa using z
    have l:=Heap.lt_size e;rw[z'] at l;exact Vh _ l
   ·rw[Qk,<-hl,tQ,Vc]
theorem mX{K:PySem.W.Frag}{H:Hp}:∀ {xs:List V} {ds:List D} {ns:List Int},IsDs K H xs ds->nO ds=some ns->xs=ns.map V.int
 | _,_,ns,.nil,h=>by cases h;rfl
 | _,_,ns,.cons (d:=d) (ds:=ds) r rs,h=>by
  cases d with
  | int i=>
   rw[nO] at h
   cases z:nO ds with
   | none=>rw[z] at h;cases h
   | some ms=>
    rw[z] at h;cases h;rw[r.intI,mX rs z];rfl
  | _=>cases h
theorem sD:vR X (zRu X.K) zAS:=⟨fun a c z=>(by
  unfold zAS at z;split at z
  ·split at z<;>cases z
  ·split at z<;>cases z
  ·cases z),fun Hi H vs ds d Q s r z q=>by
  unfold zAS at z;split at z
  ·split at z
   ·rename_i ns hns
    cases z;obtain⟨v,rfl,h⟩:=r.one;obtain⟨a,xs,rfl,h1,h2⟩:=h.lstI;have e:=mX h2 hns;subst e;exact⟨a,ns,rfl,.inl (cY s h1),q _ Hi H (Ext.refl s) (.int _)⟩
   ·cases z
  ·split at z
   ·rename_i ns hns
    cases z;obtain⟨v,rfl,h⟩:=r.one;obtain⟨a,xs,rfl,h1,h2⟩:=h.tupI;have e:=mX h2 hns;subst e;exact⟨a,ns,rfl,.inr (cQ s h1),q _ Hi H (Ext.refl s) (.int _)⟩
   ·cases z
  ·cases z⟩
theorem hZ:bootBuiltins "sum" = some (.builtin "sum"):=by first | rfl | decide +kernel
end
section
variable{prog:Program}{w:World}{A:Around}{E:Value->Shared->Prop}{s:Shared}
end
section
variable{X:Cx}{G:Gx}{es:List Expr}{pos:Pos}
end
theorem ln0{α:Type}{us:List α}(h:us.length=0):us=[]:=XW h
theorem ln1{α:Type}{us:List α}(h:us.length=1):∃ a0:α,us=[a0]:=by
 cases us with
 | nil=>cases h
 | cons a r=>
  cases ln0 (Xn h)
  exact⟨a,rfl⟩
theorem ln2{α:Type}{us:List α}(h:us.length=2):∃ a0 a1:α,us=[a0,a1]:=by
 cases us with
 | nil=>cases h
 | cons a r=>
  obtain⟨a1,rfl⟩:=ln1 (Xn h);exact⟨a,a1,rfl⟩
theorem ln3{α:Type}{us:List α}(h:us.length=3):∃ a0 a1 a2:α,us=[a0,a1,a2]:=by
 cases us with
 | nil=>cases h
 | cons a r=>
  obtain⟨a1,a2,rfl⟩:=ln2 (Xn h);exact⟨a,a1,a2,rfl⟩
theorem ln4{α:Type}{us:List α}(h:us.length=4):∃ a0 a1 a2 a3:α,us=[a0,a1,a2,a3]:=by
 cases us with
 | nil=>cases h
 | cons a r=>
  obtain⟨a1,a2,a3,rfl⟩:=ln3 (Xn h);exact⟨a,a1,a2,a3,rfl⟩
section
variable{X:Cx}{G:Gx}{a b c e:Expr}{pos p2:Pos}{f g h:Ev}{fs:Fv}{lo hi:Option Expr}{l u:Ov}
theorem zHb{v:Value}{o:Option Int}(h:IsPart v o):∃ q:Option (Int×Tok),v=partValue q/\q.map (·.1)=o:=by
 cases h with
 | none=>exact⟨none,rfl,rfl⟩
 | int i t=>exact⟨some (i,t),rfl,rfl⟩
end
section
variable{X:Cx}{G:Gx}{a b c e:Expr}{pos p2 p:Pos}{f g h:Ev}{fs:Fv}{x:Str}
theorem zCL{bl:List Stmt}:fO X G bl sNo:=fun pins s σ H E I q=>by
 obtain⟨ρ,Hi,R,ou⟩:=q;exact ou.elim
def zJL(T:List (Str×Str)):List (Str×KTD.Dat):=T.map fun q=>(q.1,.flat (.str q.2))
structure IsTab (K:PySem.W.Frag) (mg:Str->Option Value) (x:Str) (T:List (Str×Str)) (a:Addr):Prop where
 mg:mg x=some (.ref a)
 tab:∀ h:Heap,K.In h->KTD.TextTab h a (zJL T)
theorem zIa(k:Str):∀ T:List (Str×Str),KTD.datumAt k (zJL T)=(T.lookup k).map fun y=>.flat (.str y)
 | []=>rfl
 | (x,y)::r=>by
  show(if decide (k=x)=true then some (KTD.Dat.flat (.str y)) else KTD.datumAt k (zJL r))=_
  rw[Ve];by_cases hx:k=x
  ·rw[if_pos (decide_eq_true hx),show(k==x)=true from beq_iff_eq.mpr hx];rfl
  ·rw[if_neg (by simp[hx]),show(k==x)=false from beq_eq_false_iff_ne.mpr hx];exact zIa k r
theorem zHu(k:Str)(T:List (Str×Str)):KTD.inKeys k (zJL T)=(T.lookup k).isSome:=by
 rw[<-KTD.isSome_datumAt,zIa,Option.isSome_map]
theorem zKC{T:List (Str×Str)}{ad:Addr}(t:IsTab X.K X.mg x T ad)(hg:Gl X x)(hd:(x==("__debug__" : Str))=false:=by decide):PE X (.Name x p) (tC (.ref ad)):=zGu hg t.mg rfl hd
theorem zGm{T:List (Str×Str)}{ad:Addr}(t:IsTab X.K X.mg x T ad):OpR X (compareOp .NotIn) (fun v y H Q=>∃ k,v=.str k/\y=.ref ad/\Q (.bl (!(T.lookup k).isSome)) H):=by
 intro pins s σ H v y u w Q I rx ry h;obtain⟨k,rfl,rfl,q⟩:=h;obtain⟨tk,rfl⟩:=rx;cases ry;refine KTD.notin_text ⟨t.tab s.heap I.kIn,fun _ _ e=>e⟩ ?_
 rw[zHu];exact⟨.bl _,H,I.tok _,rfl,q⟩
theorem zBO{h₀:Heap}{k:Str}{P:Value->Prop}:∀ {T:List (Str×Str)},(∀ z t,T.lookup k=some z->P (.str z t))->KTD.EachL h₀ k P (zJL T)
 | [],_=>trivial
 | [(x,y)],hP=>fun hk t=>hP y t (by rw[Ve,show(k==x)=true from beq_iff_eq.mpr hk])
 | (x,y)::q::r,hP=>by
  show if decide (k=x)=true then KTD.Opened h₀ P (.flat (.str y)) else KTD.EachL h₀ k P (zJL (q::r))
  by_cases hk:k=x
  ·rw[if_pos (decide_eq_true hk)]
   exact fun t=>hP y t (by rw[Ve,show(k==x)=true from beq_iff_eq.mpr hk])
  ·rw[if_neg (by simp[hk])]
   exact zBO fun z t hz=>hP z t (by rw[Ve,show(k==x)=false from beq_eq_false_iff_ne.mpr hk];exact hz)
theorem zGs(T:List (Str×Str)):((zJL T).all fun q=>KTD.plain q.2)=true:=by
 unfold zJL;rw[List.all_map];exact Vl.mpr fun _ _=>rfl
theorem zPD{T:List (Str×Str)}{ad:Addr}(t:IsTab X.K X.mg x T ad):IxR X (fun v y H Q=>∃ k z,v=.ref ad/\y=.str k/\T.lookup k=some z/\Q (.str z) H):=by
 intro value slice pins s σ H v y u w Q I rx ry h hs;obtain⟨k,z,rfl,rfl,hk,q⟩:=h;cases rx;obtain⟨tk,rfl⟩:=ry;refine KTD.item_textA ⟨t.tab s.heap I.kIn,fun _ _ e=>e⟩ (zGs T) (by rw[zHu,hk];rfl) ?_ hs
 refine zBO fun z' t' hz=>?_
 rw[hk] at hz;cases hz;exact⟨.str _,H,I.tok _,⟨_,rfl⟩,q⟩
theorem unT{o:D->Res D}{r:R2}{y:V}(hr:∀ (Hi H:Hp) (v:V) (d:D) (Q:VK),IsD X.K Hi v d->Same Hi H->(∃ d',o d=.ok d'/\(∀ w Hi' H',Ext Hi H Hi' H'->IsD X.K Hi' w d'->Q w H'))->r v y H Q)
  (he:∀ d c,o d≠.err c):∀ σ H Q,tD X G (eUn o f) σ H Q->tOp r (tD X G f) (tC y) σ H Q:=fun σ H Q q=>by
 obtain⟨ρ,Hi,R,ou⟩:=q;refine zFb R ou fun v d Hi1 H1 e1 R1 r1 o1=>?_
 cases z:o d with
 | no=>rw[z] at o1;exact o1.elim
 | err c=>exact absurd z (he d c)
 | ok d'=>rw[z] at o1;exact hr Hi1 H1 v d Q r1 R1.s ⟨d',z,fun w Hi' H' e1 r1=>o1 Hi' H' e1 w r1⟩
theorem zPw{T:List (Str×Str)}{ad:Addr}:∀ σ H Q,tD X G (eUn (qS T) f) σ H Q->tOp (fun v y H Q=>∃ k,v=.str k/\y=.ref ad/\Q (.bl (!(T.lookup k).isSome)) H) (tD X G f) (tC (.ref ad)) σ H Q:=
 unT (fun Hi H v d Q r s h=>by
  obtain⟨d',z,q⟩:=h;unfold qS at z;split at z
  ·cases z;exact⟨_,r.strI,rfl,q _ Hi H (Ext.refl s) (.bl _)⟩
  ·cases z) fun d c z=>by unfold qS at z;split at z<;>cases z
theorem zOR{op:CmpOp}{o:D->Res D}{r:R2}{y:V}(hp:PT X (.Compare a [op] [b] pos) (zNY (tOp r (tD X G f) (tC y))))(hu:∀ σ H Q,tD X G (eUn o f) σ H Q->tOp r (tD X G f) (tC y) σ H Q):PTd X G (.Compare a [op] [b] pos) (dY (eUn o f)):=
 PT.wk hp fun σ H Q q=>by
  obtain⟨ρ,Hi,R,ou⟩:=q;refine hu σ H _ ⟨ρ,Hi,R,ou.bind.imp fun d Hi' H' e o v r=>?_⟩
  cases d with
  | bl c=>rw[r.blI];exact⟨c,rfl,o.here e.s⟩
  | _=>exact o.elim
theorem zJi{T:List (Str×Str)}{ad:Addr}(t:IsTab X.K X.mg x T ad)(hg:Gl X x)(ha:PEd X G a f)(hm:behindInMarks .NotIn (.Name x p)=false)(hd:(x==("__debug__" : Str))=false:=by decide):PTd X G (.Compare a [.NotIn] [.Name x p] pos) (dY (eUn (qS T) f)):=
 zOR (zGg (zGm t) ha (zKC t hg hd) hm) zPw
theorem zKH{T:List (Str×Str)}{ad:Addr}(t:IsTab X.K X.mg x T ad)(hg:Gl X x)(hb:PEd X G b g)(hs:zCH b)(hd:(x==("__debug__" : Str))=false:=by decide):PEd X G (.Subscript (.Name x p) b pos) (eUn (tU T) g):=
 PE.wk (zFf (zPD t) (zKC t hg hd) hb hs) fun σ H Q q=>by
  obtain⟨ρ,Hi,R,ou⟩:=q;refine zFb R ou fun v d Hi1 H1 e1 R1 r1 o1=>?_
  cases d with
  | str k=>
   have o2:Out G Hi1 H1 (zNG (T.lookup k)) _:=o1
   cases z:T.lookup k with
   | none=>rw[z] at o2;exact o2.elim
   | some y=>rw[z] at o2;exact⟨k,y,rfl,r1.strI,z,o2.here R1.s _ (.str _)⟩
  | _=>exact o1.elim
end
section
variable{prog:Program}{w:World}{A:Around}{R:Result->Shared->Prop}{I:Addr}{fp wr:List Addr}{n:Nat}{P:Nat->Value->Prop}{St:Nat->Heap->Prop}{kw:List (Str×Value)}
end
section
variable{X:Cx}{G:Gx}{a c:Expr}{pos p kp:Pos}{f g:Ev}
theorem zGT(num:Nat->Int):∀ k,num (argBest (fun i j=>decide (num i > num j)) k)=zAI (num 0) ((List.range k).map fun i=>num (i+1))
 | 0=>rfl
 | k+1=>by
  rw[X1,QG]
  have app:∀(l:List Int)(a b:Int),zAI a (l++[b])=if b > zAI a l then b else zAI a l:=by
   intro l
   induction l with
   | nil=>intro a b;rfl
   | cons x r ih=>intro a b;rw[Xo,zAI,ih,zAI]
  rw[List.map_singleton,app,<-zGT num k];show num (if decide (num (k+1) > num (argBest _ k))=true then k+1 else argBest _ k)=_
  by_cases h:num (k+1) > num (argBest (fun i j=>decide (num i > num j)) k)
  ·rw[if_pos (decide_eq_true h),if_pos h]
  ·rw[if_neg (by simp[h]),if_neg h]
theorem zDd(m:Int)(ns:List Int):(m::ns).getD (argBest (fun i j=>decide ((m::ns).getD i 0 > (m::ns).getD j 0)) ns.length) 0=zAI m ns:=by
 rw[zGT (fun i=>(m::ns).getD i 0) ns.length];show zAI m _=_
 congr 1
 refine VZ fun i=>?_
 rw[Qt];by_cases h:i < ns.length
 ·rw[Vb h,Qn h]
  show some ((m::ns).getD (i+1) 0)=_
  rw[List.getD_cons_succ,Qy,Qn h];rfl
 ·rw[QC (by rw[QA];omega),QC (by omega)];rfl
def zOr(K:PySem.W.Frag):List V->Hp->VK->Prop:=fun xs H Q=>∃(a:Addr)(m:Int)(ns:List Int),xs=[.ref a]/\SqL K H a ((m::ns).map V.int)/\Q (.int (zAI m ns)) H
theorem zAL(hc:X.calm=true):uO X (.builtin "max") (zOr X.K):=by
 intro pins s σ H xs us Q I r h;obtain⟨a,m,ns,rfl,hq,q⟩:=h;obtain⟨u,rfl,ru⟩:=zAN r;cases ru;have hh:=I.ok.hd hc;obtain⟨its,rv,p,hz⟩:=I.list hq;have hlt:a < s.heap.objs.size:=by obtain⟨_,e,_⟩:=p.isList;exact Heap.lt_size e
 have hl:=rv.length;rw[Qg,Qm] at hl;refine call_max_walk (wpAny_pyIter_list p.isList ?_)
 refine⟨s.heap.objs.size,_,_,_,_,_,fun i j=>decide ((m::ns).getD i 0 > (m::ns).getD j 0),rfl,Walks.list (A:=X.A.in1) hh s.heap.objs.size a (Qs hlt) its.toArray,⟨⟨_,Heap.get?_push_size _ rfl,rfl,rfl⟩,p.isList.push _⟩,fun b hb=>?_,by rw[Qk];omega,CmpOf.ints_gt _ fun i v hv=>xZ rv (by simpa using hv),fun v h' tk hv hk=>?_⟩
 ·show b < (s.heap.push _).objs.size
  rw[Heap.size_push];rcases Qe.mp hb with rfl | hb
  ·exact QT _
  ·rcases Qe.mp hb with rfl | hb
   ·exact VD hlt
   ·cases hb
 ·obtain⟨t,rfl⟩:=xZ rv (i:=argBest (fun i j=>decide ((m::ns).getD i 0 > (m::ns).getD j 0)) (its.toArray.size - 1)) (by simpa using hv)
  refine⟨.int (zAI m ns),H,I.kept (t':=tk) fun b o e=>hk b o (fun z=>?_) (Heap.get?_push_of_some _ e),⟨t,?_⟩,q⟩
  ·have z':b=s.heap.objs.size:=by simpa using z
   have l:=Heap.lt_size e;rw[z'] at l;exact Vh _ l
  ·rw[Qk,<-hl,Nat.add_sub_cancel,zDd]
theorem zGk:vR X (zOr X.K) zBz:=⟨fun a c z=>(by
  unfold zBz at z;split at z
  ·split at z<;>cases z
  ·cases z),fun Hi H vs ds d Q s r z q=>by
  unfold zBz at z;split at z
  ·split at z
   ·rename_i m ns hns
    cases z;obtain⟨v,rfl,h⟩:=r.one;obtain⟨a,xs,rfl,h1,h2⟩:=h.lstI;have e:=mX h2 hns;subst e;exact⟨a,m,ns,rfl,cY s h1,q _ Hi H (Ext.refl s) (.int _)⟩
   ·cases z
  ·cases z⟩
end
section
variable{X:Cx}{G:Gx}{e:Expr}{pos:Pos}{f:Ev}
end
end L3
namespace L2
open PySem PySem.Spec PyProof.Rows
section
variable{κ:Type}[DecidableEq κ]
end
abbrev KT(H:Hp):List (List Key×V)->List (List Key×Addr×Value)->Prop:=Paired fun p q=>p.1=q.1/\H q.2.1=some (.tup (p.1.map kV))/\dE p.2 q.2.2
section
variable{P:Program}{w:World}{H:Hp}{h:Heap}{a:Addr}
end
section
variable{X:Cx}{pins:List (Addr×Obj)}{σ:St}{H:Hp}{s:Shared}{a:Addr}{y v:V}{u r:Value}{o:Option V}{A:Around}{E:Value->Shared->Prop}
end
section
variable{X:Cx}{pins:List (Addr×Obj)}{σ:St}{H:Hp}{s:Shared}{a:Addr}{kvs:List (Key×V)}{k:Key}{u:Value}{A:Around}{E:Value->Shared->Prop}
end
section
variable{X:Cx}{o i e value:Expr}{pos pos' tpos:Pos}{td ty tv:TE}
end
section
variable{X:Cx}{pos:Pos}
end
end L2
namespace L3
open PySem PySem.Spec PyProof.Rows L2
unseal PEd PEf PTd PWd PAd PSd fO POd PGd jJ PId PSx nS PTs PCd PCf
section
variable{X:Cx}{G:Gx}{a b c e:Expr}{pos p2 p:Pos}{f g h:Ev}{fs:Fv}{x:Str}
end
end L3
namespace L3
open PySem PySem.Spec PyProof.Rows L2
def itN(k:Bool):String:=if k then "list_iterator" else "tuple_iterator"
def zEA(k:Bool)(h:Heap)(it l:Addr)(i:Nat):Prop:=if k then h.IsListIter it l i else h.IsTupleIter it l i
def wP(k:Bool)(h:Heap)(l:Addr)(xs:Array Value):Prop:=if k then h.IsList l xs else h.IsTuple l xs
theorem zEA.get{k:Bool}{h:Heap}{it l:Addr}{i:Nat}(x:zEA k h it l i):∃ o,h.get? it=some o/\o.cls=.type (itN k)/\o.data=.fields #[.ref l,.int i 0]:=by
 cases k<;>(obtain⟨o,a,b,c⟩:=x;exact⟨o,a,b,c⟩)
theorem zEA.mk{k:Bool}{h:Heap}{it l:Addr}{i:Nat}{o:Obj}(a:h.get? it=some o)(b:o.cls=.type (itN k))(c:o.data=.fields #[.ref l,.int i 0]):zEA k h it l i:=by
 cases k<;>exact⟨o,a,b,c⟩
theorem zEA.go{k:Bool}{h h':Heap}{it l:Addr}{i:Nat}(x:zEA k h it l i)(g:∀ o,h.get? it=some o->h'.get? it=some o):zEA k h' it l i:=by
 obtain⟨o,a,b,c⟩:=x.get;exact .mk (g o a) b c
theorem wP.go{k:Bool}{h h':Heap}{l:Addr}{xs:Array Value}(x:wP k h l xs)(g:∀ o,h.get? l=some o->h'.get? l=some o):wP k h' l xs:=by
 cases k<;>(obtain⟨o,a,b⟩:=x;exact⟨o,g o a,b⟩)
section
variable{prog:Program}{w:World}{A:Around}{E:Value->Shared->Prop}{s:Shared}
theorem zIK{k:Bool}{l:Addr}{xs:Array Value}{Q:Value->Shared->Prop}(hl:wP k s.heap l xs)(hQ:Q (.ref s.heap.objs.size) { s with heap:=s.heap.push { cls:=.type (itN k),data:=.fields #[.ref l,.int 0 0] } }):
  wpAny (model prog w) A (pyIter (.ref l)) Q E s:=by
 cases k
 ·exact wpAny_pyIter_tuple hl hQ
 ·exact wpAny_pyIter_list hl hQ
theorem nxT{it t:Addr}{i:Nat}{items:Array Value}{Q:Value->Shared->Prop}(hh:A.handled=none∨(items[i]?).isSome=true)(x:s.heap.IsTupleIter it t i)(y:s.heap.IsTuple t items)
  (go:∀ v,items[i]?=some v->∀ h2,h2.IsTupleIter it t (i+1)->Heap.SameBut it s.heap h2->Q v { s with heap:=h2 })
  (stop:items[i]?=none->∀ h2 e,Heap.ExtBut it s.heap h2->(∃ ob,h2.get? e=some ob/\ob.cls=.type "StopIteration")->E (.ref e) { s with heap:=h2 }):wpAny (model prog w) A (Builtin.SmallTypes.nextOf (.ref it)) Q E s:=by
 obtain⟨oi,ei,ci,di⟩:=id x;obtain⟨ot,et,_,nt,dt⟩:=y;have nn:¬ ((Value.ref t==Value.none)=true):=V9;unfold Builtin.SmallTypes.nextOf;refine wpAny_bind (wpAny_callSpecial?_slot (name:=Str.ofString "__next__") x.typeIs F.slot_tuple_iterator_next (wpAny_call_entry F.slot_tuple_iterator_next x.typeIs F.entry_tuple_iterator_next (show wpAny _ _ (field _ 0 >>= _) _ _ s from wpAny_bind (wpAny_field ei di (x:=.ref t) rfl ?_)) (F.args_tuple_iterator_next_1 _)))
 show wpAny _ _ (ite ((Value.ref t==Value.none)=true) _ _) _ _ s
 rw[if_neg nn];refine show wpAny _ _ (field _ 1 >>= _) _ _ s from wpAny_bind (wpAny_field ei di (x:=.int i 0) rfl (show wpAny _ _ (seqItems? _ >>= _) _ _ s from wpAny_bind (wpAny_seqItems et dt ?_)))
 have fr:∀ g:Array Value->Array Value,Heap.get? (s.heap.update it (Obj.mapFields g)) it=some (Obj.mapFields g oi):=fun g=>Heap.get?_update_self _ ei (Obj.isFreed_of_fields (Obj.data_mapFields di g))
 cases q:items[i]? with
 | some v=>
  simp only[QW,q];refine wpAny_bind (wpAny_setField ei di (by simp) (wpAny_pure ⟨v,rfl,wpAny_pure (go v q _ ⟨_,fr _,(Obj.cls_mapFields ..).trans ci,?_⟩ (Heap.SameBut.update ..))⟩))
  rw[Obj.data_mapFields di];simp[rawInt]
 | none=>
  have hh:A.handled=none:=hh.elim id fun z=>by rw[q] at z;cases z
  simp only[QW,q];refine wpAny_bind (wpAny_rule (wpAny_bind (wpAny_setField ei di (by simp) (show wpAny _ _ (newExc _ [] >>= _) _ _ _ from wpAny_bind ?_))))
  simp only[newExc,newTuple];refine wpAny_bind (wpAny_newObj_type (wpAny_bind (m:=firstArgMember _ _) (wpAny_of_eq (a:=Value.none) (by first | rfl | (simp only[firstArgMember];rfl)) (wpAny_newObj_type ?_ (by size_fits)))) (by size_fits))
  simp only[raiseNew];refine wpAny_bind (wpAny_handled ?_)
  rw[show A.in1.handled=none from hh];exact wpAny_bind (wpAny_pure (wpAny_throw (stop q _ _ (((Heap.SameBut.update ..).extBut.push _).push _) ⟨_,Heap.get?_push_size _ rfl,rfl⟩)))
theorem zHf{k:Bool}{it t:Addr}{i:Nat}{items:Array Value}{x:Value}{Q:Value->Shared->Prop}(hit:zEA k s.heap it t i)(ht:wP k s.heap t items)(hx:items[i]?=some x)
  (hQ:∀ h',zEA k h' it t (i+1)->Heap.SameBut it s.heap h'->Q x { s with heap:=h' }):wpAny (model prog w) A (Builtin.SmallTypes.nextOf (.ref it)) Q E s:=by
 cases k
 ·exact nxT (.inr (by rw[hx];rfl)) hit ht (fun v q h2 g1 g2=>by rw[hx] at q;cases q;exact hQ h2 g1 g2) fun q=>by rw[hx] at q;cases q
 ·exact wpAny_nextOf_list_item hit ht hx hQ
theorem zKT{k:Bool}{it t:Addr}{i:Nat}{items:Array Value}{Q:Value->Shared->Prop}(hh:A.handled=none)(hit:zEA k s.heap it t i)(ht:wP k s.heap t items)(hx:items[i]?=none)
  (hE:∀ h' e,Heap.ExtBut it s.heap h'->(∃ o,h'.get? e=some o/\o.cls=.type "StopIteration")->E (.ref e) { s with heap:=h' }):wpAny (model prog w) A (Builtin.SmallTypes.nextOf (.ref it)) Q E s:=by
 cases k
 ·exact nxT (.inl hh) hit ht (fun v q=>by rw[hx] at q;cases q) fun _=>hE
 ·exact wpAny_nextOf_list_end hh hit ht hx hE
def xT(f0:Value)(k1 k2:Bool)(l1 l2 n:Addr)(j1 j2:Nat)(h:Heap):Prop:=
 IsZip h (n+4) (n+2) (n+3) f0/\IsPair h (n+2) (.ref n) (.ref (n+1))/\(∃ a b,IsPair h (n+3) a b)/\zEA k1 h n l1 j1/\zEA k2 h (n+1) l2 j2
def oH(n:Addr)(h h2:Heap):Prop:=∀ c o,c≠n+4->c≠n+3->c≠n->c≠n+1->h.get? c=some o->h2.get? c=some o
theorem oH.then{n:Addr}{h h1 h2:Heap}(a:oH n h h1)(b:oH n h1 h2):oH n h h2:=fun c o c1 c2 c3 c4 e=>b c o c1 c2 c3 c4 (a c o c1 c2 c3 c4 e)
theorem oH.eb{n a:Addr}{h h2:Heap}(k:Heap.ExtBut a h h2)(m:a=n+4∨a=n+3∨a=n∨a=n+1):oH n h h2:=fun c o c1 c2 c3 c4 e=>k c o (fun z=>by subst z;rcases m with m | m | m | m<;>contradiction) e
theorem oH.sq{k:Bool}{n l:Addr}{h h2:Heap}{xs:Array Value}(a:oH n h h2)(hl:l < n)(x:wP k h l xs):wP k h2 l xs:=
 x.go fun o e=>a l o (Qs (Nat.lt_add_right 4 hl)) (Qs (Nat.lt_add_right 3 hl)) (Qs hl) (Qs (VD hl)) e
theorem zKi(n:Addr):n+3≠n+4/\n+2≠n+4/\n≠n+4/\n+1≠n+4/\n+2≠n+3/\n≠n+3/\n+1≠n+3/\n+2≠n/\n+1≠n/\n+2≠n+1:=by
 refine⟨?_,?_,?_,?_,?_,?_,?_,?_,?_,?_⟩<;>(intro z;have z':(_:Nat)=_:=z;omega)
theorem xT.fld{f0:Value}{k1 k2:Bool}{l1 l2 n:Addr}{j1 j2:Nat}{h h2:Heap}(g:xT f0 k1 k2 l1 l2 n j1 j2 h){f1:Value}(z:IsZip h2 (n+4) (n+2) (n+3) f1)(s:Heap.ExtBut (n+4) h h2):xT f1 k1 k2 l1 l2 n j1 j2 h2:=by
 obtain⟨_,g2,⟨a,b,g3⟩,g4,g5⟩:=g;obtain⟨e1,e2,e3,e4,_⟩:=zKi n;exact⟨z,s _ _ e2 g2,⟨a,b,s _ _ e1 g3⟩,g4.go fun o e=>s _ o e3 e,g5.go fun o e=>s _ o e4 e⟩
theorem xT.it1{f0:Value}{k1 k2:Bool}{l1 l2 n:Addr}{j1 j2 m:Nat}{h h2:Heap}(g:xT f0 k1 k2 l1 l2 n j1 j2 h)(z:zEA k1 h2 n l1 m)(s:Heap.ExtBut n h h2):xT f0 k1 k2 l1 l2 n m j2 h2:=by
 obtain⟨g1,g2,⟨a,b,g3⟩,_,g5⟩:=g;obtain⟨e1,e2,e3,e4,e5,e6,e7,e8,e9,_⟩:=zKi n;exact⟨s _ _ e3.symm g1,s _ _ e8 g2,⟨a,b,s _ _ e6.symm g3⟩,z,g5.go fun o e=>s _ o e9 e⟩
theorem xT.it2{f0:Value}{k1 k2:Bool}{l1 l2 n:Addr}{j1 j2 m:Nat}{h h2:Heap}(g:xT f0 k1 k2 l1 l2 n j1 j2 h)(z:zEA k2 h2 (n+1) l2 m)(s:Heap.ExtBut (n+1) h h2):xT f0 k1 k2 l1 l2 n j1 m h2:=by
 obtain⟨g1,g2,⟨a,b,g3⟩,g4,_⟩:=g;obtain⟨e1,e2,e3,e4,e5,e6,e7,e8,e9,e10⟩:=zKi n;exact⟨s _ _ e4.symm g1,s _ _ e10 g2,⟨a,b,s _ _ e7.symm g3⟩,g4.go fun o e=>s _ o e9.symm e,z⟩
theorem xT.out{f0 a b:Value}{k1 k2:Bool}{l1 l2 n:Addr}{j1 j2:Nat}{h h2:Heap}(g:xT f0 k1 k2 l1 l2 n j1 j2 h)(z:IsPair h2 (n+3) a b)(s:Heap.ExtBut (n+3) h h2):xT f0 k1 k2 l1 l2 n j1 j2 h2:=by
 obtain⟨g1,g2,_,g4,g5⟩:=g;obtain⟨e1,e2,e3,e4,e5,e6,e7,_⟩:=zKi n;exact⟨s _ _ e1.symm g1,s _ _ e5 g2,⟨a,b,z⟩,g4.go fun o e=>s _ o e6 e,g5.go fun o e=>s _ o e7 e⟩
theorem zRO{k1 k2:Bool}{n l1 l2:Addr}{j:Nat}{xs ys:Array Value}{Q:PySem.Fin->Shared->Prop}(hh:A.handled=none)(b1:l1 < n)(b2:l2 < n)(g:xT .none k1 k2 l1 l2 n j j s.heap)(d1:wP k1 s.heap l1 xs)(d2:wP k2 s.heap l2 ys)
  (go:∀ x y,xs[j]?=some x->ys[j]?=some y->∀ h2,xT (rawInt s.heap.objs.size) k1 k2 l1 l2 n (j+1) (j+1) h2->IsPair h2 s.heap.objs.size x y->oH n s.heap h2->Q (.done (.ret (.ref s.heap.objs.size))) { s with heap:=h2 })
  (stop:xs[j]?=none∨ys[j]?=none->∀ h2 e,oH n s.heap h2->(∃ o,h2.get? e=some o/\o.cls=.type "StopIteration")->E (.ref e) { s with heap:=h2 }):
  wpAny (model prog w) A (Builtin.«zip.__next__» ⟨[.ref (n+4)],[]⟩) Q E s:=by
 have stopZ:∀ {h1:Heap} {e:Addr} {v:Value} {k:Nat} {R:Unit->Shared->Prop},(xs[j]?=none∨ys[j]?=none)->oH n s.heap h1->IsZip h1 (n+4) (n+2) (n+3) .ellipsis->(∃ o,h1.get? e=some o/\o.cls=.type "StopIteration")->k < 5->
   (∀ h3,oH n s.heap h3->(∃ o,h3.get? e=some o/\o.cls=.type "StopIteration")->R () { s with heap:=h3 })->wpAny (model prog w) A (setField (.ref (n+4)) k v) R E { s with heap:=h1 }:=by
  intro h1 e v k R q kz z he hk fin;obtain⟨oe,e1,e2⟩:=he;have nz:e≠n+4:=fun y=>by subst y;rw[z] at e1;cases e1;simp at e2
  exact wpAny_setField_rec z (by simpa using hk) fun h3 _ s3=>fin h3 (kz.then (.eb s3.extBut (.inl rfl))) ⟨oe,s3.extBut _ _ nz e1,e2⟩
 obtain⟨z0,t0,⟨a,b,p0⟩,_⟩:=id g;refine show wpAny _ _ (field _ 2 >>= _) _ _ s from wpAny_bind (wpAny_field z0 rfl (x:=.bool false) rfl (show wpAny _ _ (field _ 3 >>= _) _ _ s from wpAny_bind (wpAny_field z0 rfl (x:=.ref (n+2)) rfl (wpAny_bind (wpAny_seqItems t0 rfl (wpAny_bind ?_))))))
 unfold Builtin.SmallTypes.ownedTupleIsFree;refine wpAny_bind (wpAny_field z0 rfl (x:=.none) rfl (wpAny_pure ?_))
 simp only[if_true];refine wpAny_bind (wpAny_rule (wpAny_bind (wpAny_field z0 rfl (x:=.ref (n+3)) rfl (wpAny_bind (wpAny_setField_rec z0 (by simp) fun h1 z1 s1=>wpAny_bind ?_)))))
 have g1:xT .ellipsis k1 k2 l1 l2 n j j h1:=g.fld z1 s1.extBut;have k1':oH n s.heap h1:=.eb s1.extBut (.inl rfl);simp only[List.zipIdx_cons,List.zipIdx_nil,List.forIn_cons,List.forIn_nil];refine wpAny_bind (wpAny_bind (wpAny_onRaise (show wpAny _ _ (Builtin.SmallTypes.nextOf _ >>= _) _ _ _ from wpAny_bind ?_)))
 cases q1:xs[j]? with
 | none=>
  refine zKT (s:={ s with heap:=h1 }) hh g1.2.2.2.1 (k1'.sq b1 d1) q1 fun h2 e x2 he=>stopZ (.inl q1) (k1'.then (.eb x2 (.inr (.inr (.inl rfl))))) (x2 _ _ (zKi n).2.2.1.symm g1.1) he (by decide) fun h3=>stop (.inl q1) h3 e
 | some x=>
  refine zHf (s:={ s with heap:=h1 }) g1.2.2.2.1 (k1'.sq b1 d1) q1 fun h2 i2 s2=>wpAny_pure ?_
  have g2:=g1.it1 i2 s2.extBut;have k2':=k1'.then (.eb s2.extBut (.inr (.inr (.inl rfl))));have p2:IsPair h2 (n+3) a b:=s2.extBut _ _ (zKi n).2.2.2.2.2.1.symm (s1.extBut _ _ (zKi n).1 p0);refine wpAny_bind (wpAny_seqItems (s:={ s with heap:=h2 }) p2 rfl (wpAny_bind (wpAny_updateSeq_pair p2 fun h3 p3 s3=>wpAny_bind (wpAny_letGo (wpAny_pure ?_)))))
  have g3:=g2.out p3 s3.extBut;have k3':=k2'.then (.eb s3.extBut (.inr (.inl rfl)));refine wpAny_bind (wpAny_bind (wpAny_onRaise (show wpAny _ _ (Builtin.SmallTypes.nextOf _ >>= _) _ _ _ from wpAny_bind ?_)))
  cases q2:ys[j]? with
  | none=>
   refine zKT (s:={ s with heap:=h3 }) hh g3.2.2.2.2 (k3'.sq b2 d2) q2 fun h4 e x4 he=>stopZ (.inr q2) (k3'.then (.eb x4 (.inr (.inr (.inr rfl))))) (x4 _ _ (zKi n).2.2.2.1.symm g3.1) he (by decide) fun h5=>stop (.inr q2) h5 e
  | some y=>
   refine zHf (s:={ s with heap:=h3 }) g3.2.2.2.2 (k3'.sq b2 d2) q2 fun h4 i4 s4=>wpAny_pure ?_
   have g4:=g3.it2 i4 s4.extBut;have p4:IsPair h4 (n+3) x b:=s4.extBut _ _ (zKi n).2.2.2.2.2.2.1.symm p3;refine wpAny_bind (wpAny_seqItems (s:={ s with heap:=h4 }) p4 rfl (wpAny_bind (wpAny_updateSeq_pair p4 fun h5 p5 s5=>wpAny_bind (wpAny_letGo (wpAny_pure (wpAny_pure ?_))))))
   have p5:IsPair h5 (n+3) x y:=p5;have g5:=g4.out p5 s5.extBut;have k5':=(k3'.then (.eb s4.extBut (.inr (.inr (.inr rfl))))).then (.eb s5.extBut (.inr (.inl rfl)));have sz:h5.objs.size=s.heap.objs.size:=s5.1.trans (s4.1.trans (s3.1.trans (s2.1.trans s1.1)));refine wpAny_bind (wpAny_seqItems (s:={ s with heap:=h5 }) p5 rfl (wpAny_bind (wpAny_newTuple (show wpAny _ _ (Builtin.SmallTypes.ownedTupleHandOut _ (.ref h5.objs.size) >>= _) _ _ _ from wpAny_bind ?_))))
   unfold Builtin.SmallTypes.ownedTupleHandOut;refine wpAny_bind (wpAny_setField_rec (Heap.get?_push_of_some _ g5.1) (by simp) fun h7 z7 s7=>wpAny_setField_rec z7 (by simp) fun h8 z8 s8=>wpAny_pure ?_)
   have nz:h5.objs.size≠n+4:=Xh (Heap.lt_size g5.1);have x8:Heap.ExtBut (n+4) h5 h8:=fun c o c1 e=>s8.extBut _ _ c1 (s7.extBut _ _ c1 (Heap.get?_push_of_some _ e))
   have g8:xT (rawInt h5.objs.size) k1 k2 l1 l2 n (j+1) (j+1) h8:=g5.fld z8 x8;have t8:IsPair h8 h5.objs.size x y:=s8.extBut _ _ nz (s7.extBut _ _ nz (Heap.get?_push_size _ rfl));rw[sz] at g8 t8;show Q (.done (.ret (.ref h5.objs.size))) _
   rw[sz];exact go x y q1 q2 h8 g8 t8 (k5'.then (.eb x8 (.inl rfl)))
theorem zRe{k1 k2:Bool}{n l1 l2:Addr}{j:Nat}{xs ys:Array Value}{Q:Option Value->Shared->Prop}(hh:A.handled=none)(b1:l1 < n)(b2:l2 < n)(g:xT .none k1 k2 l1 l2 n j j s.heap)(d1:wP k1 s.heap l1 xs)(d2:wP k2 s.heap l2 ys)
  (go:∀ x y,xs[j]?=some x->ys[j]?=some y->∀ h2,xT (rawInt s.heap.objs.size) k1 k2 l1 l2 n (j+1) (j+1) h2->IsPair h2 s.heap.objs.size x y->oH n s.heap h2->Q (some (.ref s.heap.objs.size)) { s with heap:=h2 })
  (stop:xs[j]?=none∨ys[j]?=none->∀ h2,oH n s.heap h2->Q none { s with heap:=h2 }):wpAny (model prog w) A (pyNext (.ref (n+4))) Q E s:=by
 have ty:s.TypeIs (.ref (n+4)) "zip" := ⟨_,g.1,rfl⟩;unfold pyNext
 refine wpAny_bind (wpAny_attempt (wpAny_callSpecial?_slot (name:=Str.ofString "__next__") ty F.slot_zip_next (wpAny_call_entry F.slot_zip_next ty F.entry_zip_next
  (zRO hh b1 b2 g d1 d2 (fun x y q1 q2 h2 a1 a2 a3=>⟨_,rfl,wpAny_pure (go x y q1 q2 h2 a1 a2 a3)⟩) fun q h2 e k he=>?_) (F.args_zip_next_1 _))))
 obtain⟨o,eo,co⟩:=he;exact wpAny_bind (wpAny_isInstance (T := "StopIteration") (b:=true) ⟨o,eo,co⟩ isSubtype_stop (wpAny_pure (stop q h2 k)))
end
abbrev zO(k:Bool)(l:Addr):Obj:={ cls:=.type (itN k),data:=.fields #[.ref l,.int 0 0] }
abbrev zH2(k1 k2:Bool)(h:Heap)(l1 l2:Addr):Heap:=(h.push (zO k1 l1)).push (zO k2 l2)
abbrev zH3(k1 k2:Bool)(h:Heap)(l1 l2:Addr):Heap:=(zH2 k1 k2 h l1 l2).push { cls:=.type "tuple", data:=.seq #[.ref h.objs.size,.ref (h.push (zO k1 l1)).objs.size] }
abbrev zH4(k1 k2:Bool)(h:Heap)(l1 l2:Addr):Heap:=(zH3 k1 k2 h l1 l2).push { cls:=.type "tuple", data:=.seq #[.none,.none] }
abbrev zH5(k1 k2:Bool)(h:Heap)(l1 l2:Addr):Heap:=(zH4 k1 k2 h l1 l2).push { cls:=.type "zip", data:=.fields #[.none,.bool false,.bool false,.ref (zH2 k1 k2 h l1 l2).objs.size,.ref (zH3 k1 k2 h l1 l2).objs.size] }
theorem zJs(k1 k2:Bool)(l1 l2:Addr)(xs ys:Array Value):Meets (Builtin.«zip.__new__» ⟨[.type "zip", .ref l1,.ref l2],[]⟩) (fun _ R s=>wP k1 s.heap l1 xs/\wP k2 s.heap l2 ys/\
  R (.ok (.ret (.ref (zH4 k1 k2 s.heap l1 l2).objs.size))) { s with heap:=zH5 k1 k2 s.heap l1 l2 }):=
 .of_wp fun prog w A R s h=>by
  obtain⟨hp,g,d,tk,os⟩:=s;obtain⟨hl1,hl2,h⟩:=h;have hsub:=sub_zip;have d1:wP k1 (Shared.heap ⟨hp,g,d,tk,os⟩) l1 xs:=hl1;have d2:wP k2 (Shared.heap ⟨hp.push { cls:=.type (itN k1),data:=.fields #[.ref l1,.int 0 0] },g,d,tk,os⟩) l2 ys:=hl2.go fun o e=>Heap.get?_push_of_some _ e
  wp_walk using zIK d1,zIK d2
  exact⟨_,rfl,h⟩
section
variable{prog:Program}{w:World}{A:Around}{E:Value->Shared->Prop}{s:Shared}
theorem zJt{k1 k2:Bool}{l1 l2:Addr}{xs ys:Array Value}{Q:Value->Shared->Prop}(d1:wP k1 s.heap l1 xs)(d2:wP k2 s.heap l2 ys)
  (h:∀ h2,xT .none k1 k2 l1 l2 s.heap.objs.size 0 0 h2->(∀ c o,s.heap.get? c=some o->h2.get? c=some o)->Q (.ref (s.heap.objs.size+4)) { s with heap:=h2 }):wpAny (model prog w) A (call (.type "zip") [.ref l1,.ref l2]) Q E s:=by
 refine callType_new F.called_zip (by decide) (F.typeCall_zip_2 _ _) (F.newCall_zip_2 _ _) (fun obj=>F.args_object_init_3 obj _ _) F.entry_zip_new (zJs k1 k2 l1 l2 xs ys) ⟨d1,d2,?_⟩
 have up:∀ {h:Heap} {a:Addr} {o ob:Obj},h.get? a=some o->(h.push ob).get? a=some o:=fun e=>Heap.get?_push_of_some _ e
 have m1:(s.heap.push (zO k1 l1)).objs.size=s.heap.objs.size+1:=Heap.size_push ..;have m2:(zH2 k1 k2 s.heap l1 l2).objs.size=s.heap.objs.size+2:=(Heap.size_push ..).trans (congrArg (·+1) m1);have m3:(zH3 k1 k2 s.heap l1 l2).objs.size=s.heap.objs.size+3:=(Heap.size_push ..).trans (congrArg (·+1) m2);have m4:(zH4 k1 k2 s.heap l1 l2).objs.size=s.heap.objs.size+4:=(Heap.size_push ..).trans (congrArg (·+1) m3);have r0:(zH5 k1 k2 s.heap l1 l2).get? s.heap.objs.size=some (zO k1 l1):=up (up (up (up (Heap.get?_push_size _ rfl))));have r1:(zH5 k1 k2 s.heap l1 l2).get? (s.heap.push (zO k1 l1)).objs.size=some (zO k2 l2):=up (up (up (Heap.get?_push_size _ rfl)));have r2:(zH5 k1 k2 s.heap l1 l2).get? (zH2 k1 k2 s.heap l1 l2).objs.size=some _:=up (up (Heap.get?_push_size _ rfl));have r3:(zH5 k1 k2 s.heap l1 l2).get? (zH3 k1 k2 s.heap l1 l2).objs.size=some _:=up (Heap.get?_push_size _ rfl);have r4:(zH5 k1 k2 s.heap l1 l2).get? (zH4 k1 k2 s.heap l1 l2).objs.size=some _:=Heap.get?_push_size _ rfl;rw[m1] at r1;rw[m1,m2] at r2;rw[m3] at r3;rw[m2,m3,m4] at r4;show _/\_
 rw[m4];exact⟨⟨_,r4,rfl⟩,h _ ⟨r4,r2,⟨_,_,r3⟩,.mk r0 rfl rfl,.mk r1 rfl rfl⟩ fun c o x=>up (up (up (up (up x))))⟩
end
section
variable{X:Cx}{pins:List (Addr×Obj)}{σ:St}{H:Hp}{s:Shared}{h':Heap}{fp:List Addr}
theorem zMc{t':Nat}{p:Addr}{xs:List V}{us:List Value}(I:Inv X pins σ H s)(hf:∀ b∈fp,sM X pins H b)(k:∀ b o,b∉fp->s.heap.get? b=some o->h'.get? b=some o)
  (hp:s.heap.objs.size<=p) (ht:IsTup h' p us.toArray) (hv:dR xs us) (hz:xs.length<=sizeLine):Inv X pins σ (upd H p (.tup xs)) { s with heap:=h',toks:=t' }:=by
 have hn:H p=none:=I.hok.fresh hp;have nf:∀ b u,H b=some u->b∉fp:=fun b u e z=>by rw[(hf b z).1] at e;cases e
 have np:∀ b u,H b=some u->upd H p (.tup xs) b=some u:=fun b u e=>by rw[bA (bE e hn)];exact e
 refine I.step (g':=s.gens) (d':=s.drawn) (ch:=fp) (fun b hb=>⟨(hf b hb).2.2.2.1,(hf b hb).2.1,(hf b hb).2.2.2.2.1,(hf b hb).2.2.2.2.2⟩) (fun b o _ _ hc e _=>k b o hc e) (fun b o _ _ hc e _=>⟨o.slots,k b o hc e⟩) (fun b o _ e n=>?_)
  (fun b o hc e=>⟨o,k b o hc e⟩) (fun b xs e=>np _ _ e) (fun b o u e=>np _ _ e) (fun b ps e=>⟨#[],by rw[np _ _ e];simp⟩) (fun m hm=>?_) (fun b u e=>?_) I.bare
 ·rw[bA (Qs (Qo (Heap.lt_size e) hp))];exact n
 ·obtain⟨o,es,ep,ho,r⟩:=hm
  exact⟨o,es,ep,k _ o (fun z=>(hf _ z).2.1 rfl) ho,r⟩
 ·by_cases hb:b=p
  ·subst hb
   rw[bB] at e;cases e
   exact⟨hz,us,hv,ht⟩
  ·rw[bA hb] at e
   refine(I.hok b u e).stay (fun c v hc q=>k c v ?_ q) (fun _ q=>np _ _ q) fun _ _ q=>np _ _ q
   rcases hc with z | z
   ·rw[z];exact nf b u e
   ·exact nf c _ z
theorem zMX{t':Nat}(I:Inv X pins σ H s)(hf:∀ b∈fp,sM X pins H b)(k:∀ b o,b∉fp->s.heap.get? b=some o->h'.get? b=some o):Inv X pins σ H { s with heap:=h',toks:=t' }:=by
 have nf:∀ b u,H b=some u->b∉fp:=fun b u e z=>by rw[(hf b z).1] at e;cases e
 refine I.step (g':=s.gens) (d':=s.drawn) (ch:=fp) (fun b hb=>⟨(hf b hb).2.2.2.1,(hf b hb).2.1,(hf b hb).2.2.2.2.1,(hf b hb).2.2.2.2.2⟩) (fun b o _ _ hc e _=>k b o hc e) (fun b o _ _ hc e _=>⟨o.slots,k b o hc e⟩) (fun b o _ e n=>n)
  (fun b o hc e=>⟨o,k b o hc e⟩) (fun b xs e=>e) (fun b o u e=>e) (fun b ps e=>⟨#[],by rw[e];simp⟩) (fun m hm=>?_) (fun b u e=>?_) I.bare
 ·obtain⟨o,es,ep,ho,r⟩:=hm
  exact⟨o,es,ep,k _ o (fun z=>(hf _ z).2.1 rfl) ho,r⟩
 ·refine(I.hok b u e).stay (fun c v hc q=>k c v ?_ q) (fun _ q=>q) fun _ _ q=>q
  rcases hc with z | z
  ·rw[z];exact nf b u e
  ·exact nf c _ z
end
def SqK(k:Bool)(K:PySem.W.Frag)(H:Hp)(a:Addr)(xs:List V):Prop:=if k then SqL K H a xs else SqT K H a xs
theorem sY{k:Bool}{K:PySem.W.Frag}{H H':Hp}(e:Same H H'){a:Addr}{xs:List V}(h:SqK k K H a xs):SqK k K H' a xs:=by
 cases k
 ·exact cQ e h
 ·exact cY e h
section
variable{X:Cx}{pins:List (Addr×Obj)}{σ:St}{H:Hp}{s:Shared}{k:Bool}{a:Addr}{xs ys:List V}
theorem sqI(I:Inv X pins σ H s)(h:SqK k X.K H a xs):∃ its:List Value,dR xs its/\wP k s.heap a its.toArray/\xs.length<=sizeLine:=by
 cases k
 ·obtain⟨its,rv,p,hz⟩:=I.tuple h
  exact⟨its,rv,p,hz⟩
 ·obtain⟨its,rv,p,hz⟩:=I.list h
  exact⟨its,rv,p.isList,hz⟩
theorem zGy(I:Inv X pins σ H s)(h:SqK k X.K H a xs)(h':SqK k X.K H a ys):xs=ys:=by
 cases k
 ·exact I.tuple_inj h h'
 ·exact I.list_inj h h'
theorem wP.lt{h:Heap}{l:Addr}{xs:Array Value}(x:wP k h l xs):l < h.objs.size:=by
 cases k<;>(obtain⟨o,e,_⟩:=x;exact Heap.lt_size e)
end
def Itz(K:PySem.W.Frag)(k1 k2:Bool)(a1 a2:Addr):It:=
  ⟨fun i H=>∃ xs ys x y,SqK k1 K H a1 xs/\SqK k2 K H a2 ys/\xs[i]?=some x/\ys[i]?=some y,
   fun i H v H'=>∃ p x y,v=.ref p/\H p=none/\H'=upd H p (.tup [x,y])/\(∀ xs,SqK k1 K H a1 xs->xs[i]?=some x)/\∀ ys,SqK k2 K H a2 ys->ys[i]?=some y,
   fun i H=>∃ xs ys,SqK k1 K H a1 xs/\SqK k2 K H a2 ys/\(xs.length<=i∨ys.length<=i)⟩
def zSa(k1 k2:Bool)(a1 a2 n:Addr)(i:Nat)(h:Heap):Prop:=xT .none k1 k2 a1 a2 n i i h
theorem uV{h:Heap}{b:Addr}{o:Obj}{d:Data}(e:h.get? b=some o)(hd:o.data=d)(nd:∀ v,d≠.cell v):∃ o,h.get? b=some o/\∀ v,o.data≠.cell v:=⟨o,e,fun v z=>nd v (hd.symm.trans z)⟩
theorem zJl{P:Program}{w:World}{K:PySem.W.Frag}{elts:List Expr}{x1:Nat}{tp:Pos}(k1 k2:Bool)(a1 a2 n:Addr)(l1:a1 < n)(l2:a2 < n):
  Turn P w K (.Tuple elts x1 tp) (Itz K k1 k2 a1 a2) [n+4,n+2,n+3,n,n+1] (n+4) (zSa k1 k2 a1 a2 n) where
 mem:=by simp
 obj:=fun i h st b hb=>by
  obtain⟨t1,t2,⟨a,b',t3⟩,t4,t5⟩:=st;obtain⟨o4,e4,_,d4⟩:=t4.get;obtain⟨o5,e5,_,d5⟩:=t5.get;simp only[Qe,V0,or_false] at hb;rcases hb with rfl | rfl | rfl | rfl | rfl
  ·exact uV t1 rfl fun v z=>by cases z
  ·exact uV t2 rfl fun v z=>by cases z
  ·exact uV t3 rfl fun v z=>by cases z
  ·exact uV e4 d4 fun v z=>by cases z
  ·exact uV e5 d5 fun v z=>by cases z
 keep:=fun i h h' st k=>by
  obtain⟨t1,t2,⟨a,b',t3⟩,t4,t5⟩:=st;exact⟨k _ (by simp) _ t1,k _ (by simp) _ t2,⟨a,b',k _ (by simp) _ t3⟩,t4.go fun o e=>k _ (by simp) o e,t5.go fun o e=>k _ (by simp) o e⟩
 item:=by
  intro X hP hw hK hc i pins s σ H E I hf st hg;subst hP hw hK;obtain⟨xs,ys,x,y,q1,q2,hx,hy⟩:=hg;obtain⟨us,r1,s1,z1⟩:=sqI I q1;obtain⟨ws,r2,s2,z2⟩:=sqI I q2;obtain⟨u,hu,ru⟩:=r1.get hx;obtain⟨v,hv,rv⟩:=r2.get hy;have hu':us.toArray[i]?=some u:=by simpa using hu
  have hv':ws.toArray[i]?=some v:=by simpa using hv
  have st':=st;obtain⟨t1,t2,⟨a,b,t3⟩,t4,t5⟩:=st;refine zRe (I.ok.hd hc) l1 l2 st' s1 s2 (fun x' y' f1 f2 h' g' p' kz=>?_) (fun q=>?_)
  rotate_left
  ·rw[hu',hv'] at q;rcases q with q | q<;>cases q
  rw[hu'] at f1;cases f1
  rw[hv'] at f2;cases f2
  refine⟨_,rfl,wpAny_letOwnedTupleGo_zip (s:={ s with heap:=h' }) g'.1 fun h'' c1 c2=>?_⟩
  have zl:s.heap.objs.size≠n+4:=Xh (Heap.lt_size t1);have np:H s.heap.objs.size=none:=I.hok.fresh (Qh _)
  have I1:Inv X pins σ (upd H s.heap.objs.size (.tup [x,y])) { s with heap:=h'',toks:=s.toks }:=zMc (us:=[u,v]) I hf (fun b o hb e=>by
    simp only[Qe,V0,or_false,not_or] at hb
    exact c2.extBut b o hb.1 (kz b o hb.1 hb.2.2.1 hb.2.2.2.1 hb.2.2.2.2 e)) (Qh _) ⟨_,c2.extBut _ _ zl p',rfl,_,rfl⟩ (.cons ru (.cons rv .nil)) (show 2<=sizeLine by decide)
  refine⟨.ref s.heap.objs.size,_,I1,rfl,⟨_,x,y,rfl,np,rfl,fun zs hz=>by rw[zGy I hz q1];exact hx,fun zs hz=>by rw[zGy I hz q2];exact hy⟩,g'.fld c1 c2.extBut,fun b hb=>?_⟩
  ·obtain⟨o,e,_⟩:∃ o,s.heap.get? b=some o/\True:=by
    obtain⟨o4,e4,_⟩:=t4.get;obtain⟨o5,e5,_⟩:=t5.get;simp only[Qe,V0,or_false] at hb;rcases hb with rfl | rfl | rfl | rfl | rfl
    ·exact⟨_,t1,trivial⟩
    ·exact⟨_,t2,trivial⟩
    ·exact⟨_,t3,trivial⟩
    ·exact⟨_,e4,trivial⟩
    ·exact⟨_,e5,trivial⟩
   rw[bA (Qs (Heap.lt_size e))];exact(hf b hb).1
 done:=by
  intro X hP hw hK hc i pins s σ H E I hf st hg;subst hP hw hK;obtain⟨xs,ys,q1,q2,hl⟩:=hg;obtain⟨us,r1,s1,z1⟩:=sqI I q1;obtain⟨ws,r2,s2,z2⟩:=sqI I q2;have st':=st;obtain⟨t1,t2,⟨a,b,t3⟩,t4,t5⟩:=st;have e1:=r1.length;have e2:=r2.length;refine zRe (I.ok.hd hc) l1 l2 st' s1 s2 (fun x y f1 f2=>?_) fun _ h' b7=>⟨rfl,zMX (t':=s.toks) I hf fun b o hb e=>?_⟩
  ·have m1:=(Yr.mp f1).1
   have m2:=(Yr.mp f2).1;rw[Qk] at m1 m2;omega
  ·simp only[Qe,V0,or_false,not_or] at hb
   exact b7 b o hb.1 hb.2.2.1 hb.2.2.2.1 hb.2.2.2.2 e
 self:=fun _ _ _ _ _ st h=>wpAny_pyIter_zip st.1 h
section
unseal PEd PEf PTd PWd PAd PSd fO POd PGd jJ PId PSx nS PTs PCd PCf
variable{X:Cx}{G:Gx}{fs:Fv}{f:Ev}
def iZp(K:PySem.W.Frag)(ta:TA):TI:=fun σ H R=>ta σ H fun vs H1=>∃ k1 k2 a1 a2 xs ys,vs=[.ref a1,.ref a2]/\SqK k1 K H1 a1 xs/\SqK k2 K H1 a2 ys/\R (Itz K k1 k2 a1 a2) H1
theorem zOX{a b:Expr}{ta:TA}{p pos:Pos}{elts:List Expr}{x1:Nat}{tp:Pos}(hg:Gl X "zip")(hm:X.mg "zip" = none)(ha:PA X [a,b] ta)
  (hs:starEach [a,b] X.env=[(false,eval a X.env),(false,eval b X.env)]:=by rfl) (hs2:starEach [b] X.env=[(false,eval b X.env)]:=by rfl):PI X (.Tuple elts x1 tp) (.Call (.Name "zip" p) [a,b] [] pos) (iZp X.K ta):=by
 intro pins s σ H R I h;refine Call_ (rQ I hg hm boot_zip (VP (thn (ha pos pins s σ H _ I h) fun us s1 ⟨vs,H1,I1,r1,q1⟩=>?_) (by rw[hs,hs2]) (by rw[hs2];rfl)))
 obtain⟨k1,k2,a1,a2,xs,ys,rfl,h1,h2,q⟩:=q1
 cases r1 with
 | cons r rr=>
  cases rr with
  | cons r' rr=>
   cases rr;cases r;cases r'
   obtain⟨us,rv,p1,z1⟩:=sqI I1 h1;obtain⟨ws,rw_,p2,z2⟩:=sqI I1 h2;refine zJt p1 p2 fun h' b1 b6=>wpAny_pyIter_zip (s:={ s1 with heap:=h' }) b1.1 ?_
   refine⟨s1.heap.objs.size+4,_,_,_,H1,rfl,I1.kept (t':=s1.toks) b6,zJl k1 k2 a1 a2 s1.heap.objs.size p1.lt p2.lt,b1,fun b hb=>?_,q⟩
   have hb':s1.heap.objs.size<=b:=by
    simp only[Qe,V0,or_false] at hb;rcases hb with rfl | rfl | rfl | rfl | rfl<;>omega
   exact I1.fpOk hb' (I1.hok.fresh hb')
theorem zAR:∀(xs ys:List D)(i:Nat)(d:D),(jT xs ys)[i]?=some d->∃ a b,xs[i]?=some a/\ys[i]?=some b/\d=.tup [a,b]
 | a::r,b::q,0,d,h=>by cases h;exact⟨a,b,rfl,rfl,rfl⟩
 | a::r,b::q,i+1,d,h=>zAR r q i d h
 | [],_,i,d,h=>by cases i<;>cases h
 | a::r,[],i,d,h=>by cases i<;>cases h
theorem zBe:∀(xs ys:List D),(jT xs ys).length=min xs.length ys.length
 | a::r,b::q=>by
  have:=zBe r q
  simp only[jT,Qm,this];omega
 | [],_=>by simp[jT]
 | a::r,[]=>by simp[jT]
theorem zHg{K:PySem.W.Frag}{Hi:Hp}{k1 k2:Bool}{a1 a2:Addr}{xs ys:List V}{ds es:List D}(h1:SqK k1 K Hi a1 xs)(h2:IsDs K Hi xs ds)(h3:SqK k2 K Hi a2 ys)(h4:IsDs K Hi ys es):
  wK K Hi (Itz K k1 k2 a1 a2) (jT ds es):=fun Hi1 H1 s1 s2 i=>by
 have g1:=sY (s1.trans s2) h1;have g3:=sY (s1.trans s2) h3;refine⟨fun hl=>⟨xs,ys,g1,g3,?_⟩,fun d hd=>?_⟩
 ·rw[zBe] at hl
  have e1:=h2.length;have e2:=h4.length;omega
 ·obtain⟨a,b,ha,hb,rfl⟩:=zAR ds es i d hd
  obtain⟨v,hv,rv⟩:=h2.at ha;obtain⟨w,hw,rw_⟩:=h4.at hb;refine⟨⟨xs,ys,v,w,g1,g3,hv,hw⟩,fun x H2 y=>?_⟩
  obtain⟨p,x',y',rfl,hp,rfl,y1,y2⟩:=y;have e1:=y1 xs g1;have e2:=y2 ys g3;rw[hv] at e1;cases e1
  rw[hw] at e2;cases e2
  have hi:=s2.none hp;have sm:=dB hi (.tup [v,w]);exact⟨upd Hi1 p (.tup [v,w]),Ext.new s2 hp,.tup (.inl (.inl bB)) (.cons ((rv.mono s1).mono sm) (.cons ((rw_.mono s1).mono sm) .nil))⟩
theorem zRa{K:PySem.W.Frag}{H:Hp}{v:V}{d:D}{ds:List D}(h:IsD K H v d)(e:zIY d=some ds):∃ k a xs,v=.ref a/\SqK k K H a xs/\IsDs K H xs ds:=by
 cases d with
 | lst es=>cases e;obtain⟨a,xs,rfl,h1,h2⟩:=h.lstI;exact⟨true,a,xs,rfl,h1,h2⟩
 | tup es=>cases e;obtain⟨a,xs,rfl,h1,h2⟩:=h.tupI;exact⟨false,a,xs,rfl,h1,h2⟩
 | _=>cases e
theorem zIy{a b:Expr}{p pos:Pos}{elts:List Expr}{x1:Nat}{tp:Pos}(hg:Gl X "zip")(hm:X.mg "zip" = none)(ha:PAd X G [a,b] fs)
  (hs:starEach [a,b] X.env=[(false,eval a X.env),(false,eval b X.env)]:=by rfl) (hs2:starEach [b] X.env=[(false,eval b X.env)]:=by rfl):
  PId X G (.Tuple elts x1 tp) (.Call (.Name "zip" p) [a,b] [] pos) (zKV fs):=PI.wk (zOX hg hm ha hs hs2) fun σ H Q q=>by
 obtain⟨ρ,Hi,R,ou⟩:=q;refine zKo R ou fun vs ds Hi1 H1 e1 R1 r1 o1=>?_
 split at o1
 ·rename_i x y
  obtain⟨v,w,rfl,h,h'⟩:=r1.two;split at o1
  ·rename_i ds es q1 q2
   obtain⟨k1,a1,xs,rfl,g1,g2⟩:=zRa h q1;obtain⟨k2,a2,ys,rfl,g3,g4⟩:=zRa h' q2;exact⟨k1,k2,a1,a2,xs,ys,rfl,sY R1.s g1,sY R1.s g3,o1.here R1.s _ (zHg g1 g2 g3 g4)⟩
  ·exact o1.elim
 ·exact o1.elim
end
end L3
namespace L3
open PySem PySem.Spec PyProof.Rows L2
unseal PEd PEf PTd PWd PAd PSd fO POd PGd jJ PId PSx nS PTs PCd PCf
structure BlkOk2 (X:Cx) (xs:List Str) (scope:Scope):Prop where
 kind:scope.kind=.function
 cell:∀ y∈scope.names,y.2≠.cell
 loc:∀ x∈xs,scope.names.lookup x=some .local
 names:∀ y∈scope.names,y.2=.local->scope.names.lookup y.1=some .local
 fre:∀ p∈scope.names,p.2=.free->X.env.kindOf p.1=some .cell∨X.env.kindOf p.1=some .free
 oth:∀ y∈X.N,scope.names.lookup y≠some .local
def zCv(X:Cx)(xs:List Str)(scope:Scope)(C:Addr)(s₂:Shared)(H₂:Hp)(fp:List Addr):Cx:=
  { prog:=X.prog,w:=X.w,K:=X.K,mg:=X.mg,base:=X.base,A:=X.A,N:=X.N++xs,s₀:=s₂,H₀:=H₂,env:=compEnvC scope (zCB X.env scope.names []) C X.env,outer:=X.stack,stack:=X.stack,
    ex:=fp,fn:=fun _=>false,calm:=X.calm,pn:=X.pn,xe:=fun _ _=>False }
section
variable{X:Cx}{pins:List (Addr×Obj)}{σ:St}{H:Hp}{s₂:Shared}{xs:List Str}{scope:Scope}{fp:List Addr}{D C:Addr}{h₁:Heap}
theorem BlkOk2.cl(B:BlkOk2 X xs scope)(I:Inv X pins σ H s₂):∀ p∈scope.names,p.2=.free->∃ c,X.env.cells.lookup p.1=some c:=fun p hp e=>I.ok.has p.1 (B.fre p hp e)
theorem zOS(I:Inv X pins σ H s₂)(B:BlkOk2 X xs scope)(hfp:∀ b∈fp,sM X pins H b)(hfl:∀ b∈fp,b < s₂.heap.objs.size)(hD:s₂.heap.objs.size<=D)(hC:s₂.heap.objs.size<=C)(hDC:D≠C)
  (old:∀ b o,s₂.heap.get? b=some o->h₁.get? b=some o) {n:Nat} (hacc:h₁.get? D=some { cls:=.type "list", data:=.seq ([]:List Value).toArray n }) {m:Str->Option Value} (hns:h₁.Ns C m) (t:Nat):
  Inv (zCv X xs scope C s₂ H fp) pins (σ++xs.map fun _=>none) (upd H D (.lst [])) { s₂ with heap:=h₁,toks:=t }:=by
 have sub:=uA scope.names [] (B.cl I) (fun y c e=>nomatch e)
 have old_lt:∀ {b:Addr} {o:Obj},s₂.heap.get? b=some o->b≠D/\b≠C:=fun e=>⟨Qs (Qo (Heap.lt_size e) hD),Qs (Qo (Heap.lt_size e) hC)⟩
 have free:∀ {b:Addr},b≠D->H b=none->upd H D (.lst []) b=none:=fun n e=>by rw[bA n];exact e
 refine⟨⟨I.ok.mod,B.kind,I.ok.glob,I.ok.blt,hC,fun y z c e1 e2=>I.ok.inj y z c (sub y c e1) (sub z c e2),fun y hy=>?_,fun y c e=>(nomatch e),I.ok.hd,I.ok.frames,.inl rfl,fun b hb=>⟨Qs (Qo (hfl b hb) hC),fun y c e=>(hfp b hb).2.2.2.2.1 y c (sub y c e)⟩,
  I.bs,QB I.ok.bsz I.sz,fun b o e hb=>?_,fun b hb z=>?_,I.stack,I.stkFree⟩,rfl,I.bare,Un.laid old hD (I.hok.fresh hD),⟨m,hns,fun i y v e1 e2 e3=>?_⟩,fun y c e=>?_,free (Ne.symm hDC) (I.hok.fresh hC),fun y c e=>?_,fun p hp=>?_,I.hok.laid old hD ⟨Vd _,[],n,.nil,hacc⟩,?_⟩
 ·have:∃ k,(k=NameKind.cell∨k=NameKind.free)/\((relabel scope X.env).names).lookup y=some k:=hy.elim (fun h=>⟨_,.inl rfl,h⟩) fun h=>⟨_,.inr rfl,h⟩
  obtain⟨k,hk,e⟩:=this
  have e':(y,NameKind.free)∈scope.names:=by
   rcases cJ e with z | ⟨_,z⟩
   ·rcases hk with rfl | rfl
    ·exact absurd rfl (B.cell _ (bY z))
    ·exact bY z
   ·exact bY z
  exact uZ scope.names [] y e'
 ·rcases (hfp b hb).2.2.2.1 with z | z
  ·exact I.ok.noex b o e z
  ·exact absurd (Qo (Heap.lt_size e) (QB I.ok.bsz z)) (Vh _)
 ·rcases Qe.mp (I.stkSub b z) with w | w
  ·exact(hfp b hb).2.1 w
  ·exact(hfp b hb).2.2.1 w
 ·
  have hi:i < σ.length:=by
   by_cases hi:i < σ.length
   ·exact hi
   ·exfalso
    rw[QU (by omega),Qt] at e2
    cases q:xs[i - σ.length]? with
    | none=>rw[q] at e2;cases e2
    | some z=>rw[q] at e2;cases e2
  rw[QM hi] at e2;have e1':(X.N++xs)[i]?=some y:=e1;rw[QM (by rw[<-I.len];exact hi)] at e1'
  cases q:X.N[i]? with
  | none=>rw[q] at e1';cases e1'
  | some z=>
   rw[q] at e1';have hy:z=y:=QK e1';have hz:z∈X.N:=Qi q;subst hy
   have fr:(z,NameKind.free)∈scope.names:=by
    rcases e3 with h | h | h
    ·rcases cJ h with h | ⟨h,_⟩
     ·exact absurd h (B.oth z hz)
     ·cases h
    ·rcases cJ h with h | ⟨_,h⟩
     ·exact absurd rfl (B.cell _ (bY h))
     ·exact bY h
    ·rcases cJ h with h | ⟨h,_⟩
     ·exact bY h
     ·cases h
   have kd:=B.fre _ fr rfl;obtain⟨m0,hn0,hl⟩:=I.loc;obtain⟨u,ru,lk⟩:=hl i z v q e2 (kd.elim (fun h=>.inr (.inl h)) fun h=>.inr (.inr h))
   refine⟨u,ru,.inr ⟨?_,?_⟩⟩
   ·rcases e3 with h | h | h
    ·rcases cJ h with h | ⟨h,_⟩
     ·exact absurd h (B.oth z hz)
     ·cases h
    ·exact .inl h
    ·exact .inr h
   ·rcases lk with⟨k1,_⟩ | ⟨_,c,hc,hcell⟩
    ·rcases kd with kd | kd<;>(rw[kd] at k1;cases k1)
    ·obtain⟨c',hc'⟩:=uZ (env:=X.env) scope.names [] z fr
     have:=sub z c' hc'
     rw[hc] at this;cases this;obtain⟨o,ho,hd⟩:=hcell;exact⟨c,hc',o,old _ _ ho,hd⟩
 ·obtain⟨v,o,ho,hd⟩:=I.cell y c (sub y c e)
  exact⟨v,o,old _ _ ho,hd⟩
 ·obtain⟨v,o,ho,hd⟩:=I.cell y c (sub y c e)
  exact free (old_lt ho).1 (I.freeC y c (sub y c e))
 ·obtain⟨e,n,ne,nf,d⟩:=I.pin p hp
  refine⟨old _ _ e,free (old_lt e).1 n,(old_lt e).2,fun z=>?_,d⟩
  rcases Qe.mp (I.stkSub _ z) with w | w
  ·exact ne w
  ·exact nf w
 ·show(σ++xs.map fun _=>none).length=(X.N++xs).length
  rw[Ql,Ql,Qg,I.len]
end
theorem zCM{f:Ev}{ρ:Rho}{d:D}{ds es:List D}(h:fY f ρ (d::ds)=.ok es):
  ∃ a b e es',d=.tup [a,b]/\f (ρ++[.val a,.val b])=.ok e/\fY f ρ ds=.ok es'/\es=e::es':=by
 unfold fY at h;split at h
 ·cases ‹_=[]›
 ·rename_i a b ds' q
  cases q
  cases hf:noErr (f (ρ++[.val a,.val b])) with
  | no=>rw[hf] at h;cases h
  | err c=>rw[hf] at h;cases h
  | ok e=>
   rw[hf] at h
   cases hr:fY f ρ ds with
   | no=>simp only[Res.bind,hr] at h;cases h
   | err c=>simp only[Res.bind,hr] at h;cases h
   | ok es'=>
    simp only[Res.bind,hr] at h;cases h;exact⟨a,b,e,es',rfl,zAz hf,rfl,rfl⟩
 ·cases h
theorem zCg{f:Ev}{ρ:Rho}{c:Str}:∀ {ds:List D},fY f ρ ds≠.err c
 | []=>fun h=>by cases h
 | d::ds=>fun h=>by
  unfold fY at h;split at h
  ·cases ‹_=[]›
  ·rename_i a b ds' q
   cases q
   cases hf:noErr (f (ρ++[.val a,.val b])) with
   | no=>rw[hf] at h;cases h
   | err c=>cases q:f (ρ++[.val a,.val b])<;>(rw[q] at hf;cases hf)
   | ok e=>
    rw[hf] at h
    cases hr:fY f ρ ds with
    | no=>simp only[Res.bind,hr] at h;cases h
    | err c'=>exact zCg hr
    | ok es'=>simp only[Res.bind,hr] at h;cases h
  ·cases h
section
variable{X:Cx}{G:Gx}{elt iter:Expr}{xa xb:Str}{pa pb tp pos:Pos}{x1:Nat}{scope:Scope}{it:Fv}{f:Ev}{k:Nat}
theorem zFS(hc:X.calm=true/\TB X.K X.mg G.Bi G.B)(hr:Room k X.A)(Bk:BlkOk2 X [xa,xb] scope)(hN:(X.N++[xa,xb]).Nodup)(hi:PId X G (.Tuple [.Name xa pa,.Name xb pb] x1 tp) iter it)
  (hb:∀(C:Addr)(s₂:Shared)(H₂:Hp)(fp:List Addr)(G':Gx),Good (zCv X [xa,xb] scope C s₂ H₂ fp) G' k->PEd (zCv X [xa,xb] scope C s₂ H₂ fp) G' elt f)
  (hs:∀ x,foldedSetIterable iter X.env x=pure x:=by intro _;rfl)
  {pins:List (Addr×Obj)} {s:Shared} {σ:St} {H Hi:Hp} {ρ:Rho} {use:Option (Value->Sem Unit)} {Q':Value->Shared->Prop} {Qa:Addr->Hp->Prop} {cpos:Pos} (I:Inv X pins σ H s) (R:lN X G Hi H σ ρ)
  (ou:Out G Hi H ((uG it f) ρ) fun ds Hi' H'=>∀ a,zJJ X.K H Hi' H' a ds->Qa a H') (hend:zQZ X pins σ use Q' Qa):
  wpAny (model X.prog X.w) X.A (comprehension (.ListComp elt [⟨.Tuple [.Name xa pa,.Name xb pb] x1 tp,iter,[],0⟩] scope pos) scope X.env cpos (newList []) false (eval iter X.env) use) Q' X.xe s:=by
 refine wpAny_comprehension_free (use:=use) rfl hs (zLt (Bk.cl I)) Bk.kind Bk.names ?_
 refine thn (hi pins s σ H (fun J H2=>∃ ds Hi2,Ext Hi H Hi2 H2/\wK X.K Hi2 J ds/\Out G Hi2 H2 (if ds.length<=16777215 then fY f ρ ds else .no) fun ds Hi' H'=>∀ a,zJJ X.K H Hi' H' a ds->Qa a H') I
  ⟨ρ,Hi,R,(Out.bind ou).imp fun ds Hi2 H2 e2 o2 J gv=>⟨ds,Hi2,e2,gv,o2⟩⟩) fun v s1 h1=>thn h1 fun itv s2 h2=>?_
 obtain⟨itA,fp,tn,J,H2,rfl,I2,T,st2,f2,ds,Hi2,e2,gv,ou2⟩:=h2
 have hlen:ds.length<=16777215:=by
  by_cases hlen:ds.length<=16777215
  ·exact hlen
  ·rw[if_neg hlen] at ou2;exact ou2.elim
 rw[if_pos hlen] at ou2
 cases hes:fY f ρ ds with
 | no=>rw[hes] at ou2;exact ou2.elim
 | err c=>exact absurd hes zCg
 | ok es=>
  rw[hes] at ou2;have R2:lN X G Hi2 H2 σ ρ:=R.grow e2;refine wpAny_newObj_type (wpAny_newFunctionEnv Bk.cell (by intro y hy;simp at hy) (fun h₁ hns₁ hsb₁=>?_) Bk.kind)
  dsimp only at hns₁ hsb₁ ⊢
  generalize hH2:s2.heap.push { cls:=.type "list", dict:=none,data:=.seq ([]:List Value).toArray }=HP at hns₁ hsb₁ ⊢;have hC:HP.objs.size=s2.heap.objs.size+1:=by rw[<-hH2,Heap.size_push]
  have hDC:s2.heap.objs.size≠HP.objs.size:=by rw[hC];omega
  have ltC:∀ {b:Addr} {o:Obj},s2.heap.get? b=some o->b≠HP.objs.size:=fun e=>by rw[hC];exact Qs (VD (Heap.lt_size e))
  have old:∀ b o,s2.heap.get? b=some o->h₁.get? b=some o:=fun b o e=>hsb₁.extBut b o (ltC e) (Heap.get?_push_of_some _ (hH2 ▸ Heap.get?_push_of_some _ e))
  have hacc:h₁.get? s2.heap.objs.size=some { cls:=.type "list", data:=.seq ([]:List Value).toArray 0 }:=hsb₁.extBut _ _ hDC (Heap.get?_push_of_some _ (hH2 ▸ Heap.get?_push_size _ rfl));have hfl:∀ b∈fp,b < s2.heap.objs.size:=fun b hb=>by obtain⟨o,e,_⟩:=T.obj _ _ st2 b hb;exact Heap.lt_size e
  have IE:=zOS (t:=s2.toks+([]:List (Str×Value)).length) I2 Bk f2 hfl (Qh _) (by rw[hC];omega) hDC old hacc hns₁
  have sub:=uA scope.names [] (Bk.cl I2) (fun y c e=>nomatch e)
  have H2D:H2 s2.heap.objs.size=none:=I2.hok.fresh (Qh _);have HD:H s2.heap.objs.size=none:=e2.h.none H2D;have Hi2D:Hi2 s2.heap.objs.size=none:=e2.s.none H2D;generalize hX:zCv X [xa,xb] scope HP.objs.size s2 H2 fp=Y at IE
  have GY:Good Y ⟨G.B,G.Bi,fun _ _=>False⟩ k:=by
   subst hX;exact⟨hc.1,hr,fun pins σ H s e s' _ h=>by obtain⟨_,_,_,_,_,c,_,z⟩:=h;exact z.elim,PassesOwn.never,hc.2⟩
  have hel:=(hX ▸ hb HP.objs.size s2 H2 fp ⟨G.B,G.Bi,fun _ _=>False⟩ (hX.symm ▸ GY):PEd Y ⟨G.B,G.Bi,fun _ _=>False⟩ elt f)
  have stat:∀ {H':Hp},(∀ b∈fp,H' b=none)->∀ b∈fp,sM Y pins H' b:=fun hn b hb=>by
   subst hX;refine⟨hn b hb,?_,fun z=>?_,.inl hb,fun y c e=>(f2 b hb).2.2.2.2.1 y c (sub y c e),(f2 b hb).2.2.2.2.2⟩
   ·show b≠HP.objs.size
    rw[hC];exact Qs (VD (hfl b hb))
   ·rcases Qe.mp (I2.stkSub b z) with w | w
    ·exact(f2 b hb).2.1 w
    ·exact(f2 b hb).2.2.1 w
  have YN:Y.N.Nodup:=by subst hX;exact hN
  have Ya:Y.N[σ.length]?=some xa:=by
   subst hX;show(X.N++[xa,xb])[σ.length]?=some xa
   rw[QU (by rw[I2.len];omega),I2.len,VY];rfl
  have Yb:Y.N[σ.length+1]?=some xb:=by
   subst hX;show(X.N++[xa,xb])[σ.length+1]?=some xb
   rw[QU (by rw[I2.len];omega),I2.len,Nat.add_sub_cancel_left];rfl
  have Yla:Y.env.scope.names.lookup xa=some .local:=by subst hX;exact lookup_relabel_local (Bk.loc xa (by simp))
  have Ylb:Y.env.scope.names.lookup xb=some .local:=by subst hX;exact lookup_relabel_local (Bk.loc xb (by simp))
  have asg:PG Y (.Tuple [.Name xa pa,.Name xb pb] x1 tp) (L2.zHv Y.K 2 (L2.nM (L2.gName σ.length) (L2.nM (L2.gName (σ.length+1)) L2.zIA))):=
   zKz (by subst hX;exact hc.1) (yC (zDk YN Ya (.inl Yla) (.inr Yla)) (yC (zDk YN Yb (.inl Ylb) (.inr Ylb)) zGC))
  have Ye:Y.env=compEnvC scope (zCB X.env scope.names []) HP.objs.size X.env:=by subst hX;rfl
  have Yxe:∀ e s,¬ Y.xe e s:=by subst hX;exact fun _ _ h=>h
  have tn1:tn 0 h₁:=T.keep _ _ _ st2 fun b _ o e=>old b o e
  have gO:∀ s3:Shared,s3={ s2 with heap:=h₁,toks:=s2.toks+([]:List (Str×Value)).length }->
    codeAny (model X.prog X.w) X.A (.compLoop (.ListComp elt [⟨.Tuple [.Name xa pa,.Name xb pb] x1 tp,iter,[],0⟩] scope pos) 0 (.ref itA) (.ref s2.heap.objs.size) Y.env) (compPost (model X.prog X.w) X.A X.xe use Q' (.ref s2.heap.objs.size) HP.objs.size) s3:=by
   rintro s3 rfl
   subst hX
   have fr0:∀ b∈fp,upd H2 s2.heap.objs.size (.lst []) b=none:=fun b hb=>by
    rw[bA (Qs (hfl b hb))];exact(f2 b hb).1
   refine PyProof.Rows.LCp.codeAny_compLoop_pair (fun n s'=>∃ c:CW,n=ds.length - c.i/\CS (zCv X [xa,xb] scope HP.objs.size s2 H2 fp) pins σ tn fp Hi2 H2 s2.heap.objs.size 2 (fun i=>fY f ρ (ds.drop i)) es c s') ?_ ds.length
    ⟨⟨0,[none,none],_,Hi2,[],[],es⟩,rfl,⟨IE,rfl,tn1,fr0,(Ext.refl e2.s).trans (Ext.newF e2.s H2D),bB,Hi2D,.nil,Qh _,hes,rfl⟩⟩
   ·rintro n s3 ⟨⟨i,vv,H3,Hi3,ys,done,rest⟩,rfl,I3,wd3,st3,fr3,e3,hD3,hiD3,rd3,hl3,hr3,hes3⟩
    dsimp only at I3 wd3 st3 fr3 e3 hD3 hiD3 rd3 hl3 hr3 hes3 ⊢
    obtain⟨v,v',rfl⟩:∃ v v',vv=[v,v']:=by
     match vv,wd3 with
     | [v,v'],_=>exact⟨v,v',rfl⟩
    obtain⟨w1,w2⟩:=gv Hi3 H3 e3.i e3.s i;have lift:∀ {α:Type} {m:Sem α} {Q':α->Shared->Prop} {E:Value->Shared->Prop} {s':Shared},wpAny (model X.prog X.w) X.A m Q' (zCv X [xa,xb] scope HP.objs.size s2 H2 fp).xe s'->wpAny (model X.prog X.w) X.A m Q' E s':=fun h=>wpAny_mono h (fun _ _ z=>z) fun e s z=>(Yxe e s z).elim
    by_cases hlt:i < ds.length
    ·obtain⟨d,hd⟩:∃ d,ds[i]?=some d:=⟨_,Qn hlt⟩
     obtain⟨go,yl⟩:=w2 d hd
     have e4:ds.drop i=d::ds.drop (i+1):=by
      rw[Qn hlt] at hd;cases hd;exact XY hlt
     rw[e4] at hr3;refine thn (T.item (zCv X [xa,xb] scope HP.objs.size s2 H2 fp) rfl rfl rfl hc.1 i pins s3 _ H3 _ I3 (stat fr3) st3 go) fun r s4 ⟨u,hru,h4⟩=>?_
     subst hru;refine thn h4 fun _ s5 h5=>?_
     obtain⟨xv,H5,I5,r5,y5,st5,fr5⟩:=h5;obtain⟨Hi5,e5,rd5⟩:=yl xv H5 y5;have I5':=I5.pinned (stat fr5) (T.obj _ _ st5);obtain⟨a,b,e,es',rfl,hf,hr4,hee⟩:=zCM hr3;obtain⟨pa',ps,rfl,hq,hps⟩:=rd5.tupI;obtain⟨va,vb,rfl,ra,rb⟩:=hps.two;refine lift (thn (asg _ s5 _ H5 _ u (fun σ' H'=>σ'=σ++[some va,some vb]/\H'=H5) I5' r5 ⟨pa',_,rfl,cQ (e3.trans e5).s hq,rfl,va,_,rfl,vb,_,rfl,rfl,?_,rfl⟩) fun _ s6 h6=>?_)
     ·rw[XZ _ _ (Qh _),VY,XZ _ _ (Nat.le_succ _),Nat.succ_sub (Qh _),VY];rfl
     obtain⟨σ6,H6,I6,rfl,rfl⟩:=h6;have E5:Ext Hi2 H2 Hi5 H6:=e3.trans e5
     have R5:lN (zCv X [xa,xb] scope HP.objs.size s2 H2 fp) ⟨G.B,G.Bi,fun _ _=>False⟩ Hi5 H6 (σ++[some va,some vb]) (ρ++[.val a,.val b]):=by
      have:=Rel.snoc (Rel.snoc (R2.grow E5) ra) rb
      rw[Q9,Q9] at this;exact this
     obtain⟨hD5,hiD5⟩:=e5.out hD3 hiD3;have rd5':=rd3.mono e5.i
     have again:∀ {H8 Hi8:Hp} {ys':List V} {done' rest':List D} {s8:Shared},Inv (zCv X [xa,xb] scope HP.objs.size s2 H2 fp) (pins++uW fp s5.heap) (σ++[some va,some vb]) H8 s8->Ext Hi2 H2 Hi8 H8->H8 s2.heap.objs.size=some (.lst ys')->Hi8 s2.heap.objs.size=none->IsDs X.K Hi8 ys' done'->done'.length<=i+1->
       fY f ρ (ds.drop (i+1))=.ok rest'->es=done'++rest'->∃ m,m < ds.length - i/\∃ c:CW,m=ds.length - c.i/\CS (zCv X [xa,xb] scope HP.objs.size s2 H2 fp) pins σ tn fp Hi2 H2 s2.heap.objs.size 2 (fun i=>fY f ρ (ds.drop i)) es c s8:=fun {H8 Hi8 ys' done' rest' s8} I8 E8 a1 a2 a3 a4 a5 a6=>by
      refine⟨ds.length - (i+1),by omega,⟨i+1,[some va,some vb],H8,Hi8,ys',done',rest'⟩,rfl,⟨I8.unpinned,rfl,T.keep _ _ _ st5 fun b hb o e=>(I8.pin (b,o) (Qz _ (Qz _ (fK hb e)))).1,fun b hb=>?_,E8,a1,a2,a3,a4,a5,a6⟩⟩
      obtain⟨o,e,_⟩:=T.obj _ _ st5 b hb;exact(I8.pin (b,o) (Qz _ (Qz _ (fK hb e)))).2.1
     refine lift (thn (hel _ s6 _ H6 (fun w H'=>∃ Hi',Ext Hi5 H6 Hi' H'/\IsD X.K Hi' w e) I6 ⟨_,Hi5,R5,by rw[hf];exact fun Hi' H' ee w hw=>⟨Hi',ee,hw⟩⟩) fun u8 s8 h8=>?_)
     obtain⟨w8,H8,I8,r8,Hi8,e8,rw8⟩:=h8;obtain⟨hD8,hiD8⟩:=e8.out hD5 hiD5;have rdy:IsDs X.K Hi8 ys done:=rd5'.mono e8.i;refine lift (thn (vF (X:=(zCv X [xa,xb] scope HP.objs.size s2 H2 fp)) _ s8 _ H8 (.ref s2.heap.objs.size) [w8] (.ref s2.heap.objs.size) [u8] (fun _ H'=>H'=upd H8 s2.heap.objs.size (.lst (ys++[w8]))) I8 rfl (.cons r8 .nil) ⟨_,ys,w8,rfl,rfl,hD8,?_,rfl⟩) fun _ s9 h9=>?_)
     ·rw[rdy.length]
      exact Vp hl3 (Qo hlt (QB hlen (by decide)))
     ·obtain⟨_,H9,I9,_,rfl⟩:=h9
      refine again I9 (Ext.rewrite (E5.trans e8) H2D hiD8 ⟨_,hD8⟩) bB hiD8 (rdy.snoc rw8) (by rw[Ql];exact XM hl3) hr4 ?_
      rw[hes3,hee,Q9];rfl
    ·rw[Xc (by omega),fY] at hr3
     cases hr3;refine thn (T.done (zCv X [xa,xb] scope HP.objs.size s2 H2 fp) rfl rfl rfl hc.1 i pins s3 _ H3 _ I3 (stat fr3) st3 (w1 (by omega))) fun r s4 ⟨hrn,I4⟩=>?_
     subst hrn;obtain⟨m4,hn4,_⟩:=I4.loc;have fC:H3 HP.objs.size=none:=I4.free;have nC:∀ b u,H3 b=some u->b≠HP.objs.size:=fun b u e z=>by rw[z,fC] at e;cases e
     have U4:=I4.base;refine hend HP.objs.size s2.heap.objs.size m4 s4 H3 hn4 (fun h' hs'=>?_) (I2.fpOk (by rw[hC];omega) fC) ?_
     ·have kp:∀ b o,b≠HP.objs.size->s4.heap.get? b=some o->h'.get? b=some o:=fun b o hb e=>hs'.extBut b o hb e
      refine Inv.call' I2 (ch:=fp) I4.os ⟨fun b o e n hb hx=>kp b o (ltC e) (U4.keep b o e n hb hx),fun b o e n hb hx=>?_,U4.free,fun b o e hx=>?_,U4.tups,U4.frzs,U4.tbls⟩ (fun b u e=>?_) I4.bare (fun b hb=>⟨(f2 b hb).2.2.2.1,(f2 b hb).2.1,(f2 b hb).2.2.2.2.1,(f2 b hb).2.2.2.2.2⟩)
      ·obtain⟨sl,q⟩:=U4.slot b o e n hb hx
       exact⟨sl,kp b _ (ltC e) q⟩
      ·obtain⟨o',q⟩:=U4.there b o e hx
       exact⟨o',kp b _ (ltC e) q⟩
      ·refine(I4.hok b u e).stay (fun c v hc q=>kp c v ?_ q) (fun _ q=>q) fun _ _ q=>q
       rcases hc with z | z
       ·rw[z];exact nC b u e
       ·exact nC c _ z
     ·refine ou2 Hi3 H3 e3 _ ⟨HD,hiD3,ys,hD3,?_⟩
      rw[hes3,QS];exact rd3
  rw[Ye] at gO;exact codeAny_compStart_list (gO _ rfl) (T.self _ 0 _ _ _ tn1 (gO _ rfl))
theorem zJI(hc:X.calm=true/\TB X.K X.mg G.Bi G.B)(hr:Room k X.A)(Bk:BlkOk2 X [xa,xb] scope)(hN:(X.N++[xa,xb]).Nodup)(hi:PId X G (.Tuple [.Name xa pa,.Name xb pb] x1 tp) iter it)
  (hb:∀(C:Addr)(s₂:Shared)(H₂:Hp)(fp:List Addr)(G':Gx),Good (zCv X [xa,xb] scope C s₂ H₂ fp) G' k->PEd (zCv X [xa,xb] scope C s₂ H₂ fp) G' elt f)
  (hs:∀ x,foldedSetIterable iter X.env x=pure x:=by intro _;rfl):PEf X G (.ListComp elt [⟨.Tuple [.Name xa pa,.Name xb pb] x1 tp,iter,[],0⟩] scope pos) (uG it f):=by
 intro pins s σ H Q I w;obtain⟨ρ,Hi,R,ou⟩:=w;rw[eval_ListComp];refine zFS hc hr Bk hN hi hb hs (use:=none) (Qa:=fun a H'=>Q (.ref a) H') I R ou fun C A m s4 H3 hn hI _ q=>?_
 exact⟨m,hn,fun h' hs'=>⟨.ref A,H3,hI h' hs',rfl,q⟩⟩
def zMd(sc:Scope)(N:List Str)(xs:List Str)(scope:Scope):Bool:=
 scope.names.all (fun y=>y.2 != .cell) && xs.all (fun x=>scope.names.lookup x==some .local) && scope.names.all (fun y=>y.2 != .local || scope.names.lookup y.1==some .local)
  && scope.names.all (fun p=>p.2 != .free || (sc.names.lookup p.1==some .cell || sc.names.lookup p.1==some .free)) && N.all (fun y=>scope.names.lookup y != some .local)
theorem zNb{sc:Scope}{N xs:List Str}(hk:scope.kind=.function)(hsc:X.env.scope=sc)(hN:X.N=N)(h:zMd sc N xs scope=true):BlkOk2 X xs scope:=by
 unfold zMd at h;simp only[Va] at h;obtain⟨⟨⟨⟨h1,h2⟩,h3⟩,h4⟩,h5⟩:=h;subst hN hsc;refine⟨hk,fun y hy e=>?_,fun x hx=>?_,fun y hy e=>?_,fun p hp e=>?_,fun y hy e=>?_⟩
 ·have:=Vl.mp h1 y hy
  rw[e] at this;cases this
 ·exact beq_iff_eq.mp (Vl.mp h2 x hx)
 ·have:=Vl.mp h3 y hy
  rw[e] at this;simpa using this
 ·have:=Vl.mp h4 p hp
  rw[e] at this;have q:X.env.scope.names.lookup p.1=some .cell∨X.env.scope.names.lookup p.1=some .free:=by simpa using this
  exact q
 ·have:=Vl.mp h5 y hy
  rw[e] at this;cases this
theorem tT{sc:Scope}{N:List Str}(W:Good X G k)(hnd:(N++[xa,xb]).Nodup)(hk:scope.kind=.function)(hsc:X.env.scope=sc)(hN:X.N=N)(h:zMd sc N [xa,xb] scope=true)(hi:PId X G (.Tuple [.Name xa pa,.Name xb pb] x1 tp) iter it)
  (hb:∀(C:Addr)(s₂:Shared)(H₂:Hp)(fp:List Addr)(G':Gx),Good (zCv X [xa,xb] scope C s₂ H₂ fp) G' k->PEd (zCv X [xa,xb] scope C s₂ H₂ fp) G' elt f)
  (hs:∀ x,foldedSetIterable iter X.env x=pure x:=by intro _;rfl):PEf X G (.ListComp elt [⟨.Tuple [.Name xa pa,.Name xb pb] x1 tp,iter,[],0⟩] scope pos) (uG it f):=
 zJI ⟨W.calm,W.tb⟩ W.room (zNb hk hsc hN h) (hN ▸ hnd) hi hb hs
end
end L3
namespace L3
open PySem PySem.Spec PyProof.Rows L2
section
variable{prog:Program}{w:World}{A:Around}{E:Value->Shared->Prop}{s:Shared}
end
section
variable{X:Cx}{G:Gx}{fs:Fv}{f:Ev}
unseal PEd PEf PTd PWd PAd PSd fO POd PGd jJ PId PSx nS PTs PCd PCf
end
end L3
namespace L3
open PySem PySem.Spec PyProof.Rows L2
unseal PEd PEf PTd PWd PAd PSd fO POd PGd jJ PId PSx nS PTs PCd PCf
section
variable{X:Cx}{G:Gx}{f:Ev}{pos:Pos}
section
variable{o:Expr}{k:Nat}{b:Bool}{p1 p2 p3:Pos}
end
section
variable{i fo:Nat}{x y:Str}{ea eb ec ct o0 o1:Expr}{body rest:List Stmt}{a b:Fv}{cmp:Tv}{sr:Sv}{p1 p2 p3 p4 p5 p6 p7 p8 p9 p10 p11 p12 p13 p14 p15 p16:Pos}{k5 k0 k1:Nat}
end
section
variable{i j1 j2 j3:Nat}{x:Str}{tg ec c1 c2 c3 esl ev o:Expr}{b2 b3:List Stmt}{t1 t2 t3:Tv}{sl:Fv}{g:Ev}{p1 p2 p3 p4 p5 p6 p7 p8 p9:Pos}
end
end
section
variable{prog:Program}{w:World}{A:Around}{E:Value->Shared->Prop}{s:Shared}
theorem zAh{r:Addr}{a b c:Int}{t u v:Tok}{n:Nat}{R:List Value->Shared->Prop}(hh:A.handled=none)(hr:IsRange s.heap r a b c t u v)(hsmall:Builtin.Range.small a b c=true)(hn:Builtin.Range.rangeSize a b c=n)(hlen:n<=2^24)
  (h:∀ h' tk acc,(∀ b o,s.heap.get? b=some o->h'.get? b=some o)->s.heap.objs.size<=h'.objs.size->ItemsOf (fun i v=>∃ t,v=.int (a+i * c) t) acc n->R acc.toList { s with heap:=h',toks:=tk }):
  wpAny (model prog w) A (collect (.ref r)) R E s:=by
 unfold collect;refine wpAny_bind (wpAny_runValue (codeAny_builtin entry_proto_collect' ?_))
 rw[Around.under_plainId PySem.F.plain_proto_collect _];show wpAny _ A.in1 (newList [] >>= fun l=>again (.builtin "list.__iadd__" ⟨[l,.ref r],[]⟩)) _ _ s
 refine wpAny_bind (wpAny_newObj_type ?_)
 refine wpAny_pure ⟨plainId_quiet Ys _,codeAny_builtin entry_list_iadd' ?_⟩
 rw[Around.under_plainId Ys _];have hS₁:(s.heap.push { cls:=.type "list", data:=.seq ([]:List Value).toArray }).get? s.heap.objs.size=some { cls:=.type "list", data:=.seq #[] }:=Heap.get?_push_size _ rfl;show wpAny _ A.in1 (Builtin.List.listExtendWith (.ref s.heap.objs.size) (.ref r) (.ref s.heap.objs.size)) _ _ _
 have key:=wpAny_extend_range (prog:=prog) (w:=w) (A:=A) (s:={ s with heap:=s.heap.push { cls:=.type "list", data:=.seq ([]:List Value).toArray } })
  (R:=fun(q:Result) (s':Shared)=>∃(h':Heap)(tk:Nat)(acc':Array Value)(c':Nat),q=.ok (.ret (.ref s.heap.objs.size))/\s'={ s with heap:=h',toks:=tk }/\
   (∀ b o,s.heap.get? b=some o->h'.get? b=some o)/\h'.get? s.heap.objs.size=some { cls:=.type "list", dict:=none,data:=.seq acc' c',slots:=#[] }/\ItemsOf (fun i v=>∃ t,v=.int (a+i * c) t) acc' n)
  hh (Heap.get?_push_of_some _ hr) hsmall hn hlen s.heap.objs.size (.ref s.heap.objs.size) 0 hS₁
  (fun h' tk acc' c' hk hS' hacc=>⟨h',tk,acc',c',rfl,rfl,fun b o e=>hk b o (Qs (Heap.lt_size e)) (Heap.get?_push_of_some _ e),hS',hacc⟩)
 refine wpAny_mono key (fun fin s' x=>?_) fun e s' x=>?_
 ·cases fin with
  | done f=>
   obtain⟨h',tk,acc',c',e,rfl,hk,hS',hacc⟩:=x;cases e;show wpAny _ A (load s.heap.objs.size >>= _) _ _ _
   refine wpAny_bind (wpAny_load hS' ?_)
   exact wpAny_pure (h h' tk acc' hk (Vn (Heap.lt_size hS')) hacc)
  | again c₁=>
   refine⟨x.1,codeAny_mono x.2 fun q s₂ y=>?_⟩
   obtain⟨h',tk,acc',c',rfl,rfl,hk,hS',hacc⟩:=y;show wpAny _ A (load s.heap.objs.size >>= _) _ _ _
   refine wpAny_bind (wpAny_load hS' ?_)
   exact wpAny_pure (h h' tk acc' hk (Vn (Heap.lt_size hS')) hacc)
 ·obtain⟨_,_,_,_,e',_⟩:=x
  cases e'
end
section
variable{X:Cx}{pins:List (Addr×Obj)}{σ:St}{H:Hp}{s:Shared}{A:Around}{E:Value->Shared->Prop}{a kS:Addr}{vs:List Value}{kz:List Int}{keys:Array Value}{e e1:Nat}{P:PySem.Fin->Shared->Prop}
theorem oZ{h':Heap}{tk:Nat}(f:sM X pins H a)(I:Inv X pins σ H s)(sb:Heap.SameBut a s.heap h'):Inv X pins σ H { s with heap:=h',toks:=tk }:=by
 obtain⟨f0,f1,f2,f3,f4,f5⟩:=f;exact I.turned (fun b o hb e=>(sb.2 b hb).trans e) f0 f1 f3 f4 f5
theorem zHS{st:SortSt}(I:Inv X pins σ H s)(fa:sM X pins H a)(fk:sM X pins H kS)(hka:kS≠a)(nk:s.heap.get? kS=some (seqObj "list" keys e))(na:s.heap.get? a=some (seqObj "list" #[] e1))
  (hk:IntsAre keys.toList kz) (hlen:kz.length=vs.length) (h64:vs.length < 64) (hp:(arrOf st).Perm (keys.zip vs.toArray)) (hs:SortedTo (arrOf st) (arrOf st).size) (hfl:failedOf st=none)
  (h:∀ s' out c,Inv X pins σ H s'->s'.heap.get? a=some (seqObj "list" out c)->KskOut false kz vs out.toList->P (.done (.ret .none)) s'):
  wpAny (model X.prog X.w) A (ksk_tail a false e1 (.ref kS) st) P E s:=by
 have hsz:keys.size=vs.length:=by
  have h1:=hk.length;rw[VO] at h1;omega
 have hsz2:(arrOf st).size=vs.length:=by rw[hp.size_eq,Array.size_zip,hsz,Qk,Xm]
 have hout:((arrOf st).map (·.2)).size=vs.length:=by rw[Array.size_map];exact hsz2
 have s1:=Heap.SameBut.update s.heap kS (Obj.mapSeq fun _=>(#[]:Array Value))
 have na1:(s.heap.update kS (Obj.mapSeq fun _=>(#[]:Array Value))).get? a=some (seqObj "list" #[] e1):=(s1.2 a hka.symm).trans na
 have s2:=Heap.SameBut.update (s.heap.update kS (Obj.mapSeq fun _=>(#[]:Array Value))) a (Obj.mapSeq fun _=>(arrOf st).map (·.2))
 obtain⟨c2,hc2⟩:∃ c2,((s.heap.update kS (Obj.mapSeq fun _=>(#[]:Array Value))).update a (Obj.mapSeq fun _=>(arrOf st).map (·.2))).get? a=some (seqObj "list" ((arrOf st).map (·.2)) c2):=
  ⟨_,get?_update_seq na1 fun _=>(arrOf st).map (·.2)⟩
 unfold ksk_tail;try dsimp only
 refine wpAny_bind (listUpdate_at nk rfl ?_ (by rw[hsz,sizeLine_eq];omega) (Vd _))
 refine wpAny_bind (wpAny_letGo ?_)
 refine wpAny_bind (seqEpoch_at na1 rfl ?_)
 refine wpAny_bind (listUpdate_at na1 rfl ?_ (Vd _) (by simp only[VM,if_false];exact QB (X2 hout) (by rw[sizeLine_eq];omega)))
 rw[hfl];simp only[bne_self_eq_false,VM,if_false];have I1:Inv X pins σ H { s with heap:=s.heap.update kS (Obj.mapSeq fun _=>(#[]:Array Value)) }:=oZ fk (tk:=s.toks) I s1
 have I2:Inv X pins σ H { s with heap:=(s.heap.update kS (Obj.mapSeq fun _=>(#[]:Array Value))).update a (Obj.mapSeq fun _=>(arrOf st).map (·.2)) }:=(by have z:=oZ (tk:=s.toks) fa I1 s2;exact z)
 exact wpAny_pure (h _ _ c2 I2 hc2 (ksk_out (b:=false) hk hp hs))
theorem zOs(I:Inv X pins σ H s)(fa:sM X pins H a)(fk:sM X pins H kS)(hka:kS≠a)(nk:s.heap.get? kS=some (seqObj "list" keys e))(na:s.heap.get? a=some (seqObj "list" #[] e1))
  (hk:IntsAre keys.toList kz) (hlen:kz.length=vs.length) (h64:vs.length < 64)
  (h:∀ s' out c,Inv X pins σ H s'->s'.heap.get? a=some (seqObj "list" out c)->KskOut false kz vs out.toList->P (.done (.ret .none)) s'):
  wpAny (model X.prog X.w) A (ksk_end a false vs.toArray e1 (.ref kS) keys) P E s:=by
 have hsz:keys.size=vs.length:=by
  have h1:=hk.length;rw[VO] at h1;omega
 have hzs:(keys.zip vs.toArray).size=vs.length:=by rw[Array.size_zip,hsz,Qk,Xm]
 unfold ksk_end;try dsimp only
 simp only[VM,if_false];by_cases h2:vs.toArray.size < 2
 ·rw[if_pos h2,if_pos h2]
  refine wpAny_bind (wpAny_pure ?_)
  rw[StateT.run_pure];refine wpAny_bind (wpAny_pure ?_)
  try dsimp only
  refine zHS (st:=SortSt.mk' general' (keys.zip vs.toArray) #[] 7 none) I fa fk hka nk na hk hlen h64 (Array.Perm.refl _) ?_ rfl h
  intro i j hij hj;have hj2:j < (keys.zip vs.toArray).size:=hj;rw[hzs] at hj2;rw[Qk] at h2;have:i=j:=by omega
  subst this;exact V3 _
 ·rw[if_neg h2,if_neg h2]
  rw[Qk] at h2;rw[ksk_kind hk (by rw[hsz];omega)];refine wpAny_bind (wpAny_pure ?_)
  refine wpAny_bind (wpAny_mono (wpS_sortRuns (a₀:=keys.zip vs.toArray) (st:=SortSt.mk' oneType' (keys.zip vs.toArray) #[] 7 none)
   (Q:=fun _ st'=>(arrOf st').Perm (keys.zip vs.toArray)/\failedOf st'=none/\SortedTo (arrOf st') (keys.zip vs.toArray).size)
   (ksk_intKeys hk) ⟨Array.Perm.refl _,rfl,rfl,rfl⟩ (by rw[hzs];omega) (by rw[hzs];exact h64) fun st' a1 a2 a3=>⟨a1,a2,a3⟩) ?_ fun _ _ e=>e)
  rintro⟨⟨⟩,st'⟩ s' ⟨rfl,hp,hf,hs⟩
  try dsimp only
  exact zHS I fa fk hka nk na hk hlen h64 hp (by rw[hp.size_eq];exact hs) hf h
theorem zMY{f:Value}{e0:Nat}(I:Inv X pins σ H s)(fa:sM X pins H a)(fk:sM X pins H kS)(hka:kS≠a)(nk:s.heap.get? kS=some (seqObj "list" #[] e0))(na:s.heap.get? a=some (seqObj "list" #[] e1))
  (hlen:kz.length=vs.length) (h64:vs.length < 64)
  (turn:∀(i:Nat)(v:Value)(k:Int),vs[i]?=some v->kz[i]?=some k->∀(s':Shared)(pl:List (Addr×Obj)),Inv X (pins++pl) σ H s'->
   wpAny (model X.prog X.w) A (call f [v]) (fun u s''=>(∃ t,u=.int k t)/\Inv X (pins++pl) σ H s'') (fun _ _=>False) s')
  (h:∀ s' out c,Inv X pins σ H s'->s'.heap.get? a=some (seqObj "list" out c)->KskOut false kz vs out.toList->P (.done (.ret .none)) s'):
  wpAny (model X.prog X.w) A (ksk_rest a f false vs.toArray e1 (.ref kS)) P E s:=by
 unfold ksk_rest;refine wpAny_bind (wpAny_rule ?_)
 first
  | rw[List.forIn_toArray]
  | (rw[<-Array.forIn_toList];simp only[Yt])
  | rw[<-Array.forIn_toList]
 refine wpAny_bind (ksk_fold (fun i s'=>∃ kA e,Inv X pins σ H s'/\s'.heap.get? kS=some (seqObj "list" kA e)/\s'.heap.get? a=some (seqObj "list" #[] e1)/\IntsAre kA.toList (kz.take i)) vs 0 s
  ⟨#[],e0,I,nk,na,by simpa using IntsAre.nil⟩ ?step ?done)
 case step=>
  rintro j x s' hx ⟨kA,e,I',nk',na',hk⟩
  simp only[VS] at hk ⊢
  have hj:j < vs.length:=(Qx.mp hx).1;obtain⟨k,hkj⟩:∃ k,kz[j]?=some k:=⟨_,Qn (by omega)⟩
  have hz:kA.size<=vs.length:=by
   have h1:=hk.length;rw[VO,VR] at h1;omega
  have pin:∀ b∈[kS,a],∃ o,s'.heap.get? b=some o/\∀ v,o.data≠.cell v:=fun b hb=>by
   rcases Qe.mp hb with rfl | hb
   ·exact⟨_,nk',fun v z=>by have z':Data.seq _ _=Data.cell v:=z;cases z'⟩
   ·rw[Qu.mp hb];exact⟨_,na',fun v z=>by have z':Data.seq _ _=Data.cell v:=z;cases z'⟩
  have Ip:Inv X (pins++uW [kS,a] s'.heap) σ H s':=I'.pinned (fun b hb=>by
   rcases Qe.mp hb with rfl | hb
   ·exact fk
   ·rw[Qu.mp hb];exact fa) pin
  refine wpAny_bind (wpAny_attempt (wpAny_mono (turn j x k hx hkj s' _ Ip) (fun v s'' he=>?_) fun _ _ hF=>hF.elim))
  obtain⟨⟨t2,rfl⟩,I2p⟩:=he;try dsimp only
  have nk2:s''.heap.get? kS=some (seqObj "list" kA e):=(I2p.pin _ (Qz _ (Qz _ (fK (b:=kS) (by simp) nk')))).1
  have na2:s''.heap.get? a=some (seqObj "list" #[] e1):=(I2p.pin _ (Qz _ (Qz _ (fK (b:=a) (by simp) na')))).1
  have I2:Inv X pins σ H s'':=I2p.unpinned;have s1:=Heap.SameBut.update s''.heap kS (Obj.mapSeq (·.push (.int k t2)));obtain⟨c2,hc2⟩:∃ c2,(s''.heap.update kS (Obj.mapSeq (·.push (.int k t2)))).get? kS=some (seqObj "list" (kA.push (.int k t2)) c2):=⟨_,get?_update_seq nk2 (·.push (.int k t2))⟩;have ek:kz.take (j+1)=kz.take j++[k]:=by rw[List.take_add_one,hkj];simp
  have ea:(kA.push (Value.int k t2)).toList=kA.toList++[Value.int k t2]:=by simp
  refine wpAny_bind (listUpdate_at nk2 rfl ?_ (by rw[sizeLine_eq];omega) (QB (X2 (Array.size_push ..)) (by rw[sizeLine_eq];omega)))
  exact wpAny_pure ⟨rfl,kA.push (.int k t2),c2,oZ fk (tk:=s''.toks) I2 s1,hc2,(s1.2 a hka.symm).trans na2,by rw[ea,ek];exact ksk_snoc hk⟩
 case done=>
  rintro s' ⟨kA,e,I',nk',na',hk⟩
  have hk':IntsAre kA.toList kz:=by
   have e3:kz.take (0+vs.length)=kz:=VV (by omega)
   rw[e3] at hk;exact hk
  try dsimp only
  refine wpAny_bind (listItems_at nk' rfl ?_)
  exact zOs I' fa fk hka nk' na' hk' hlen h64 h
def vA(v:Value):Nat:=(numOf v).toNat
theorem zMF{out:List Value}(hlen:kz.length=vs.length)(hv:∀ (j:Nat) (v:Value),vs[j]?=some v->∃ t,v=.int j t)(h:KskOut false kz vs out):gX kz (out.map vA)/\dR ((out.map vA).map fun i:Nat=>V.int (i:Int)) out:=by
 obtain⟨ps,hp,ho,hs⟩:=h
 have at':∀ p,p∈kz.zip vs->∃(j:Nat)(t:Tok),p.2=.int j t/\kz[j]?=some p.1:=fun p hm=>by
  obtain⟨j,hj,e⟩:=List.mem_iff_getElem.mp hm;rw[X3] at hj;rw[List.getElem_zip] at e;obtain⟨t,ht⟩:=hv j (vs[j]'(by omega)) (Qn _)
  refine⟨j,t,by rw[<-e];exact ht,by rw[<-e];exact Qn _⟩
 have n1:∀(j:Nat)(t:Tok),vA (.int j t)=j:=fun j t=>by unfold vA;show(Int.toNat (j:Int))=j;rfl
 have hvs:vs.map vA=List.range kz.length:=by
  refine VZ fun j=>?_
  rw[Qt];by_cases hj:j < vs.length
  ·obtain⟨t,ht⟩:=hv j _ (Qn hj)
   rw[Qn hj,ht,Vb (by omega)];show some (vA _)=_
   rw[n1]
  ·rw[QC (by omega),QC (by rw[QA];omega)];rfl
 subst ho;refine⟨⟨?_,?_⟩,?_⟩
 ·have h1:((ps.map Prod.snd).map vA).Perm (((kz.zip vs).map Prod.snd).map vA):=(hp.map _).map _
  rw[List.map_snd_zip (by omega),hvs] at h1;exact h1
 ·rw[Qw,VB]
  refine VX (fun {p q} hm hq hr=>?_) hs
  have hr':p.1<=q.1:=by simpa using hr
  obtain⟨i,t,e1,e2⟩:=at' p (hp.mem_iff.mp hm);obtain⟨j,u,e3,e4⟩:=at' q (hp.mem_iff.mp hq);show kz.getD (vA p.2) 0<=kz.getD (vA q.2) 0
  rw[e1,e3,n1,n1,Qy,Qy,e2,e4];exact hr'
 ·have go:∀ l:List Value,(∀ v∈l,∃(j:Nat)(t:Tok),v=.int j t)->dR ((l.map vA).map fun i:Nat=>V.int (i:Int)) l:=by
   intro l
   induction l with
   | nil=>intro _;exact .nil
   | cons v r ih=>
    intro hl;obtain⟨j,t,rfl⟩:=hl v (.head _);exact .cons ⟨t,by rw[n1]⟩ (ih fun u hu=>hl u (.tail _ hu))
  refine go _ fun v hv'=>?_
  obtain⟨p,hm,rfl⟩:=Qp.mp hv';obtain⟨j,t,e1,_⟩:=at' p (hp.mem_iff.mp hm);exact⟨j,t,e1⟩
theorem zHe{r q:Addr}{n:Nat}{t u v:Tok}{Q:Value->Shared->Prop}(hc:X.calm=true)(I:Inv X pins σ H s)(hr:IsRange s.heap r 0 n 1 t u v)(h64:n < 64)(hkz:kz.length=n)
  (turn:∀(j:Nat)(tk:Tok)(k:Int),kz[j]?=some k->∀(s':Shared)(pl:List (Addr×Obj)),Inv X (pins++pl) σ H s'->
   wpAny (model X.prog X.w) X.A.in1.in1 (call (.ref q) [.int j tk]) (fun u s''=>(∃ t,u=.int k t)/\Inv X (pins++pl) σ H s'') (fun _ _=>False) s')
  (h:∀ D s' out c π,Inv X pins σ H s'->sM X pins H D->s.heap.objs.size<=D->s'.heap.get? D=some (seqObj "list" out c)->gX kz π->dR (π.map fun i:Nat=>V.int (i:Int)) out.toList->Q (.ref D) s'):
  wpAny (model X.prog X.w) X.A (call (.builtin "sorted") [.ref r] [(Str.ofString "key", .ref q)]) Q E s:=by
 refine call_function_entry_kw kind_sorted plain_sorted entry_sorted (ksk_s1 _ _) ?_
 unfold Builtin.«sorted»
 refine wpAny_bind (m:=checkCount "sorted" 1 1 _) (wpAny_pure ?_)
 refine wpAny_bind (zAh (n:=n) (A:=X.A.in1) (I.ok.hd hc) hr (small_one (by omega) (by omega) (by omega) (by omega)) (by rw[rangeSize_one];split<;>omega) (by omega) fun h1 tk acc hk hsz hacc=>?_)
 have hl:acc.toList.length=n:=by rw[VO];exact hacc.1
 refine wpAny_bind (wpAny_newList ?_ (by rw[hl,sizeLine_eq];omega))
 have I1:Inv X pins σ H { s with heap:=h1,toks:=tk }:=I.kept hk;have fa:sM X pins H h1.objs.size:=I1.fpOk (Qh _) (I1.hok.fresh (Qh _));have I2:Inv X pins σ H { s with heap:=h1.push (seqObj "list" acc.toList.toArray 0),toks:=tk }:=I1.kept (t':=tk) fun b o e=>Heap.get?_push_of_some _ e
 have hoL:(h1.push (seqObj "list" acc.toList.toArray 0)).get? h1.objs.size=some (seqObj "list" acc.toList.toArray 0):=Heap.get?_push_size _ rfl;show wpAny _ _ _ _ _ { s with heap:=h1.push (seqObj "list" acc.toList.toArray 0),toks:=tk }
 refine wpAny_bind (wpAny_holding (wpAny_call_entry_kw slot_list_sort ⟨_,hoL,rfl⟩ entry_list_sort ?body (ksk_l1 _ _)))
 case body=>
  show wpAny (model X.prog X.w) X.A.in1.in1 (Builtin.«list.sort» ⟨[.ref h1.objs.size],[(Str.ofString "key", .ref q)]⟩) _ _ _
  rw[ksk_t1];have s3:=Heap.SameBut.update (h1.push (seqObj "list" acc.toList.toArray 0)) h1.objs.size (Obj.mapSeq fun _=>(#[]:Array Value))
  obtain⟨e1,ho1⟩:∃ e1,((h1.push (seqObj "list" acc.toList.toArray 0)).update h1.objs.size (Obj.mapSeq fun _=>(#[]:Array Value))).get? h1.objs.size=some (seqObj "list" #[] e1):=⟨_,get?_update_seq hoL fun _=>#[]⟩
  have I3:Inv X pins σ H { s with heap:=(h1.push (seqObj "list" acc.toList.toArray 0)).update h1.objs.size (Obj.mapSeq fun _=>(#[]:Array Value)),toks:=tk }:=(by have z:=oZ (tk:=tk) fa I2 s3;exact z)
  generalize hg3:(h1.push (seqObj "list" acc.toList.toArray 0)).update h1.objs.size (Obj.mapSeq fun _=>(#[]:Array Value))=h3 at s3 ho1 I3
  unfold ksk_tree;refine wpAny_bind (listItems_at hoL rfl ?_)
  refine wpAny_bind (listUpdate_at hoL rfl ?_ (by rw[Qk,sizeLine_eq];omega) (Vd _))
  show wpAny _ _ _ _ _ { s with heap:=(h1.push (seqObj "list" acc.toList.toArray 0)).update h1.objs.size (Obj.mapSeq fun _=>(#[]:Array Value)),toks:=tk }
  rw[hg3];refine wpAny_bind (seqEpoch_at ho1 rfl ?_)
  refine wpAny_bind (wpAny_newTuple ?_ (by show acc.toList.toArray.toList.length<=_;rw[sizeLine_eq,Yt];omega))
  refine wpAny_bind (wpAny_newList ?_ (Vd _))
  refine wpAny_holding ?_
  have I4:Inv X pins σ H { s with heap:=h3.push (seqObj "tuple" acc.toList.toArray 0),toks:=tk }:=I3.kept (t':=tk) fun b o e=>Heap.get?_push_of_some _ e
  have fk:sM X pins H (h3.push (seqObj "tuple" acc.toList.toArray 0)).objs.size:=I4.fpOk (Qh _) (I4.hok.fresh (Qh _));have I5:Inv X pins σ H { s with heap:=(h3.push (seqObj "tuple" acc.toList.toArray 0)).push (seqObj "list" #[] 0),toks:=tk }:=I4.kept (t':=tk) fun b o e=>Heap.get?_push_of_some _ e
  have ho4:(h3.push (seqObj "tuple" acc.toList.toArray 0)).get? h1.objs.size=some (seqObj "list" #[] e1):=Heap.get?_push_of_some _ ho1;refine zMY (vs:=acc.toList) (kz:=kz) (e0:=0) I5 fa fk (Xh (Heap.lt_size ho4)) (Heap.get?_push_size _ rfl) (Heap.get?_push_of_some _ ho4) (by rw[hkz,hl]) (by rw[hl];exact h64) (fun i v' k hi hk' s' pl Ip=>?_) fun s' out c I' ho' ko=>?_
  ·obtain⟨tk',rfl⟩:=hacc.2 i v' (by rw[<-XD];exact hi)
   have e3:(0:Int)+(i:Int) * 1=(i:Int):=by omega
   rw[e3];exact turn i tk' k hk' s' pl Ip
  ·obtain⟨hπ,hV⟩:=zMF (by rw[hkz,hl]) (fun j v' hj=>by
    obtain⟨tk',rfl⟩:=hacc.2 j v' (by rw[<-XD];exact hj)
    exact⟨tk',by congr 1;omega⟩) ko
   exact⟨_,rfl,wpAny_pure ⟨_,rfl,h _ s' out c _ I' fa hsz ho' hπ hV⟩⟩
end
end L3
namespace L3
open PySem PySem.Spec PyProof.Rows L2 PySem.W
unseal PEd PEf PTd PWd PAd PSd fO POd PGd jJ PId PSx nS PTs PCd PCf
def zRD:CXT:=fun _ _ _ _ _ _=>False
def cxL(P:Program)(w:World)(K:PySem.W.Frag)(mg:Str->Option Value)(base:Heap)(N:List Str)(qual:Str)(scope:Scope)(f:Addr)(cd:Value)(cl:List (Str×Addr))(A:Around)(outer:List Env)(s:Shared)(H:Hp):Cx where
 prog:=P
 w:=w
 K:=K
 mg:=mg
 base:=base
 A:=A.deeper (envX qual scope s.heap.objs.size f cd cl)
 N:=N
 s₀:=s
 H₀:=H
 env:=envX qual scope s.heap.objs.size f cd cl
 outer:=outer
 stack:=envX qual scope s.heap.objs.size f cd cl::outer
 ex:=[]
 fn:=fun _=>false
 calm:=true
 pn:=[]
 xe:=fun _ _=>False
theorem zMt{P:Program}{w:World}{K:PySem.W.Frag}{mg:Str->Option Value}{base:Heap}{N:List Str}{qual name:Str}{scope:Scope}{f c':Addr}{cl:List (Str×Addr)}{A:Around}{outer:List Env}{s:Shared}{H:Hp}{params:Arguments}{body:Expr}{pm ctv u:Value}{p:Str}{σ:St}{Q:VK}{E:XK}{t:TE}
  (hd:A.handled=none) (hdp:A.depth < recursionLimit) (e0:Env0 P w K mg base A outer s H) (ho:s.heap.get? f=some (kla_obj name qual params body scope cl pm c' ctv)) (hcd:s.heap.CodeRec (.ref c') qual)
  (hbind:bindArgs (kla_fn name qual params body scope cl pm (.ref c') ctv) ⟨[u],[]⟩=pure [(p,u)]) (hloc:scope.names.lookup p=some .local)
  (hco:scope.isCoroutine=false) (hgen:scope.isGenerator=false) (hk:scope.kind=.function) (hcell:∀ x∈scope.names,x.2≠.cell)
  (hfree:∀ x,scope.names.lookup x=some .free->∃ c,cl.lookup x=some c) (hinj:∀ x y c,cl.lookup x=some c->cl.lookup y=some c->x=y)
  (hcl:∀ x c,cl.lookup x=some c->(∃ v,s.heap.IsCell c v)/\H c=none) (hlen:σ.length=N.length)
  (hσ:∀(i:Nat)(x:Str)(v:V),N[i]?=some x->σ[i]?=some (some v)->(x=p/\dE v u)∨(scope.names.lookup x=some .free/\∃ c u',cl.lookup x=some c/\s.heap.IsCell c (some u')/\dE v u'))
  (hb:PE (cxL P w K mg base N qual scope f (.ref c') cl A outer s H) body t) (hq:t σ H Q):
  codeAny (model P w) A (.call (.ref f) ⟨[u],[]⟩) (CR zRD outer P w H s Q E) s:=by
 have lim:s.heap.NoLimit:=e0.mod.nolimit.keeps fun b o e=>(e0.bs b o e).1
 refine kla_callFunE hdp ho rfl hco hgen rfl hcd ?_
 rw[hbind];refine wpAny_pure (wpAny_newFunctionEnv hcell (fun y hy=>by rw[Qu.mp hy];exact hloc) (fun h₁ hns hsb=>⟨lim.fresh _ hsb,?_⟩) hk)
 have hk₁:∀ b o,s.heap.get? b=some o->h₁.get? b=some o:=fun b o e=>hsb.extBut b o (Qs (Heap.lt_size e)) (Heap.get?_push_of_some _ e)
 have noA:∀ b:Addr,b∉(cxL P w K mg base N qual scope f (.ref c') cl A outer s H).ex:=fun b z=>absurd (show b∈([]:List Addr) from z) (by simp)
 have I:Inv (cxL P w K mg base N qual scope f (.ref c') cl A outer s H) [] σ H { s with heap:=h₁,toks:=s.toks+1 }:=by
  refine⟨⟨e0.mod,hk,rfl,rfl,Qh _,hinj,fun y hy=>?_,fun y c z _=>?_,fun _=>hd,Around.frames_deeper e0.frames,.inr ⟨rfl,rfl⟩,fun b z=>absurd z (noA b),e0.bs,e0.bsz,fun b _ _=>noA b,fun b z=>absurd z (noA b),e0.funs,e0.frf⟩,
   rfl,e0.bare,Un.kept hk₁,⟨_,hns,fun i y v h1 h2 h3=>?_⟩,fun y c h=>?_,e0.hok.fresh (Qh _),fun y c h=>(hcl y c h).2,fun p hp=>absurd (show p∈([]:List (Addr×Obj)) from hp) (by simp),e0.hok.kept hk₁,hlen⟩
  ·have hy:scope.names.lookup y=some .cell∨scope.names.lookup y=some .free:=hy
   rcases hy with hy | hy
   ·exact absurd rfl (hcell _ (Vx hy))
   ·exact hfree y hy
  ·cases z
  ·rcases hσ i y v h1 h2 with⟨rfl,r⟩ | ⟨hf,c,u',h4,⟨o,h5,h6⟩,r⟩
   ·exact⟨u,r,.inl ⟨hloc,by simp[List.lookup]⟩⟩
   ·exact⟨u',r,.inr ⟨.inr hf,c,h4,o,hk₁ _ _ h5,h6⟩⟩
  ·obtain⟨⟨v,o,h5,h6⟩,_⟩:=hcl y c h
   exact⟨v,o,hk₁ _ _ h5,h6⟩
 refine kla_codeExpr (wpAny_mono (hb [] _ σ H Q I hq) (fun v s' z=>?_) fun e s' z=>False.elim z)
 obtain⟨x,H',J,r,q⟩:=z;exact⟨x,H',J.os,J.bare,J.base,J.hok,r,q⟩
theorem zJe{l:List Value}{a b:Int}{c:Value}(h:TriplesOk l):TriplesOk (l++[rawInt a,rawInt b,c]):=TriplesOk_snoc a b c l h
theorem zFe{pos q:Pos}{c x:Value}(l:List Value)(h:TriplesOk l)(e:codeAmong q (l++[rawInt pos.line,rawInt pos.col,c])=some x):codeAmong q l=some x∨x=c:=by
 fun_induction TriplesOk l with
 | case1=>
  simp only[Vz,codeAmong,rawInt] at e;split at e
  ·exact .inr (QK e).symm
  ·cases e
 | case2 a t b u y rest ih=>
  simp only[Xo,codeAmong] at e ⊢
  split at e
  ·rename_i hc;rw[if_pos hc];exact .inl e
  ·rename_i hc;rw[if_neg hc];exact ih h e
 | case3 l h1 h2=>exact h.elim
def BMn(base:Heap)(mg:Str->Option Value):Prop:=∃ bm ob,mg "__builtins__" = some (.ref bm)/\bm≠builtinsNs/\base.get? bm=some ob/\ob.cls=.type "module" /\ ob.dict=some builtinsNs/\ob.data=.plain
section
variable{X:Cx}{pins:List (Addr×Obj)}{σ:St}{H:Hp}{s:Shared}{P c c':Addr}
theorem zJE{ps more:Array Value}{h':Heap}{tk:Nat}{oc:Obj}(I:Inv X pins σ H s)(hP:H P=some (.tbl ps))(hx:Heap.ExtBut P s.heap h')(hge:s.heap.objs.size<=c')(hc:h'.get? c'=some oc)(hP':h'.get? P=some { cls:=.none,data:=.fields (ps++more) }):
  Inv X pins σ (upd (upd H P (.tbl (ps++more))) c' (.frz oc (.own 0))) { s with heap:=h',toks:=tk }:=by
 have nP:∀ {b:Addr},H b=none->b≠P:=fun e z=>by rw[z,hP] at e;cases e
 have cF:H c'=none:=I.hok.fresh hge;have nc:∀ {b:Addr} {o:Obj},s.heap.get? b=some o->b≠c':=fun e=>Qs (Qo (Heap.lt_size e) hge)
 have hPc:P≠c':=bE hP cF;have up:∀ {b:Addr},b≠P->b≠c'->upd (upd H P (.tbl (ps++more))) c' (.frz oc (.own 0)) b=H b:=fun h1 h2=>by rw[bA h2,bA h1]
 have upP:upd (upd H P (.tbl (ps++more))) c' (.frz oc (.own 0)) P=some (.tbl (ps++more)):=by rw[bA hPc,bB]
 have kd:∀ {b:Addr} {o:HO},H b=some o->(∀ qs,o≠.tbl qs)->upd (upd H P (.tbl (ps++more))) c' (.frz oc (.own 0)) b=some o:=fun {b o} e hn=>by
  rw[up (fun z=>by rw[z,hP] at e;exact hn ps (QK e).symm) (bE e cF)];exact e
 refine I.un ⟨fun b o e n _ _=>hx b o (nP n) e,fun b o e n _ _=>⟨o.slots,hx b o (nP n) e⟩,fun b o e n _=>by rw[up (nP n) (nc e)];exact n,fun b o e _=>?_,fun b xs e=>kd e fun qs z=>(by cases z),fun b o u e=>kd e fun qs z=>(by cases z),fun b qs e=>?_⟩ fun b u e=>?_
 ·by_cases hb:b=P
  ·subst hb;exact⟨_,hP'⟩
  ·exact⟨o,hx b o hb e⟩
 ·by_cases hb:b=P
  ·subst hb
   rw[hP] at e;cases e
   exact⟨more,upP⟩
  ·exact⟨#[],by rw[up hb (bE e cF),e];simp⟩
 ·by_cases h2:b=c'
  ·subst h2
   rw[bB] at e;cases e
   exact⟨hc,oc,hc⟩
  ·by_cases h1:b=P
   ·subst h1
    rw[upP] at e;cases e
    exact hP'
   ·rw[up h1 h2] at e
    refine(I.hok b u e).stay (fun d v hd q=>hx d v (fun z=>?_) q) (fun d q=>kd q fun qs z=>(by cases z)) fun d xs q=>kd q fun qs z=>(by cases z)
    rcases hd with rfl | hd
    ·exact h1 z
    ·rw[z,hP] at hd;cases hd
theorem zIQ{ps:Array Value}{oc:Obj}{pos:Pos}{vs:Array Value}{t:Tok}(hP:H P=some (.tbl ps))(cF:H c'=none)(hd:oc.data=.fields vs)(hv:vs[1]?=some (.str sN t)):
  Keep H (upd (upd H P (.tbl (ps++#[rawInt pos.line,rawInt pos.col,.ref c']))) c' (.frz oc (.own 0))):=by
 have hPc:P≠c':=bE hP cF;have upP:upd (upd H P (.tbl (ps++#[rawInt pos.line,rawInt pos.col,.ref c']))) c' (.frz oc (.own 0)) P=some (.tbl (ps++#[rawInt pos.line,rawInt pos.col,.ref c'])):=by rw[bA hPc,bB]
 have kd:∀ {b:Addr} {o:HO},H b=some o->b≠P->upd (upd H P (.tbl (ps++#[rawInt pos.line,rawInt pos.col,.ref c']))) c' (.frz oc (.own 0)) b=some o:=fun {b o} e hn=>by
  rw[bA (bE e cF),bA hn];exact e
 refine⟨fun b o e=>?_,fun Q T=>?_⟩
 ·by_cases hb:b=P
  ·subst hb
   rw[hP] at e;cases e
   exact .inr ⟨_,_,rfl,upP⟩
  ·exact .inl (kd e hb)
 ·obtain⟨qs,e,ht,k⟩:=T
  have old:∀(q:Pos)(cv:Value),codeAmong q qs.toList=some cv->∃ c oc' vs t u,cv=.ref c/\upd (upd H P (.tbl (ps++#[rawInt pos.line,rawInt pos.col,.ref c']))) c' (.frz oc (.own 0)) c=some (.frz oc' u)/\oc'.data=.fields vs/\vs[1]?=some (.str sN t):=fun q cv z=>by
   obtain⟨c,oc',vs',t',u,r1,r2,r3⟩:=k q cv z;exact⟨c,oc',vs',t',u,r1,kd r2 (fun w=>by rw[w,hP] at r2;cases r2),r3⟩
  by_cases hb:Q=P
  ·subst hb
   rw[hP] at e;cases e
   have el:(ps++#[rawInt pos.line,rawInt pos.col,.ref c']).toList=ps.toList++[rawInt pos.line,rawInt pos.col,.ref c']:=by simp
   refine⟨_,upP,by rw[el];exact zJe ht,fun q cv z=>?_⟩
   rw[el] at z;rcases zFe _ ht z with z | z
   ·exact old q cv z
   ·exact⟨c',oc,vs,t,_,z,bB,hd,hv⟩
  ·exact⟨qs,kd e hb,ht,old⟩
theorem zJw{params:Arguments}{body:Expr}{scope:Scope}{pos:Pos}{clos:List (Str×Addr)}{M:Model}{A:Around}{E:Value->Shared->Prop}{Q:Value->Shared->Prop}(I:Inv X pins σ H s)(tb:zBF P H)(hC:∀ h,X.K.In h->CodeHd h c P)(hcode:X.env.code=.ref c)(hq:X.env.qual ++ "<lambda>" = sN)(hB:BMn X.base X.mg)
  (hcl:closureFor scope X.env=pure clos) (hdef:defaultsOf params X.env=([],[]))
  (h:∀ f c' ctv oc vs t u H' s',Inv X pins σ H' s'->Keep H H'->(∀ b o,H b=some o->b≠P->H' b=some o)->sM X pins H' f->s.heap.objs.size<=f->s'.heap.get? f=some (kla_obj "<lambda>" sN params body scope clos ((X.mg "__name__").getD .none) c' ctv)->
   H' c'=some (.frz oc u)->oc.data=.fields vs->vs[1]?=some (.str sN t)->Q (.ref f) s'):
  wpAny M A (eval (.Lambda params body scope pos) X.env) Q E s:=by
 obtain⟨ps,hP,ht,hk⟩:=id tb;have hPo:s.heap.get? P=some (tabObj ps):=I.hok P _ hP;have hg:s.heap.Ns mainGlobals X.mg:=I.mod.glob.keeps I.bk
 have hgP:mainGlobals≠P:=fun z=>by
  obtain⟨o,es,ep,e,_⟩:=I.mod.glob;have:=(I.bs _ _ e).2
  rw[z,hP] at this;cases this
 have hb:s.heap.BuiltinsAt X.mg P:=by
  obtain⟨bm,ob,b1,b2,b3,b4,b5,b6⟩:=hB;refine⟨bm,ob,b1,b2,fun z=>?_,fun z=>?_,(I.bs _ _ b3).1,b4,b5,b6⟩
  ·obtain⟨o,es,ep,e,d,_⟩:=I.mod.glob
   rw[z,e] at b3;cases b3;rw[d] at b6;cases b6
  ·have:=(I.bs _ _ b3).2
   rw[z,hP] at this;cases this
 refine kla_eval hdef ?_
 rw[hq]
 cases hf:codeAmong pos ps.toList with
 | some cv=>
  obtain⟨c',oc,vs,t,u,rfl,r1,r2,r3⟩:=hk pos cv hf;refine kla_makeFunctionHit hcl I.ok.glob hg hcode (hC _ I.kIn) hPo ht hf hb fun ctv h' tk hkk hsz=>?_
  have I1:Inv X pins σ H { s with heap:=h',toks:=tk }:=I.kept hkk;have I2:Inv X pins σ H { s with heap:=h'.push (kla_obj "<lambda>" sN params body scope clos ((X.mg "__name__").getD .none) c' ctv),toks:=tk }:=I1.kept (t':=tk) fun b o e=>Heap.get?_push_of_some _ e
  exact h _ c' ctv oc vs t u H _ I2 (Keep.refl _) (fun b o e _=>e) (I1.fpOk (Qh _) (I1.hok.fresh (Qh _))) hsz (Heap.get?_push_size _ rfl) r1 r2 r3
 | none=>
  refine kla_makeFunction hcl I.ok.glob hg hcode (hC _ I.kIn) hPo ht hf hgP hb fun c' ctv h' tk hx hge hlt hrec htb=>?_
  obtain⟨c₂,oc,vs,t,e2,hoc,hd,hv⟩:=hrec;cases e2;have I1:=zJE (tk:=tk) I hP hx hge hoc htb;have I2:=I1.kept (t':=tk) (h':=h'.push (kla_obj "<lambda>" sN params body scope clos ((X.mg "__name__").getD .none) c' ctv)) fun b o e=>Heap.get?_push_of_some _ e
  have cF:H c'=none:=I.hok.fresh hge;exact h _ c' ctv oc vs t _ _ _ I2 (zIQ hP cF hd hv) (fun b o e hb=>by rw[bA (bE e cF),bA hb];exact e) (I1.fpOk (Qh _) (I1.hok.fresh (Qh _))) (Vn (Vp hge hlt)) (Heap.get?_push_size _ rfl) bB hd hv
end
theorem zBS{K:PySem.W.Frag}{H:Hp}:∀ π:List Nat,IsDs K H (π.map fun i:Nat=>V.int (i:Int)) (kB π)
 | []=>.nil
 | n::ns=>.cons (.int n) (zBS ns)
def zDa(p:Pos):Arguments:={ posonlyargs:=[],args:=[{ arg := "spot", annotation:=none,pos:=p }],vararg:=none,kwonlyargs:=[],kw_defaults:=[],kwarg:=none,defaults:=[] }
def kU:Scope:={ kind:=.function,names:=[(PySem.Str.ofString "spot", .local),(PySem.Str.ofString "bottom", .free),(PySem.Str.ofString "some", .free)],isGenerator:=false,isCoroutine:=false,more:=[] }
section
variable{X:Cx}{p1 p2 p3 p4 p5 p6 p7 p8 p9 pa pb pc pd pe pf pg ph pi pj:Pos}
theorem zJy{b k:Int}{a:Addr}{xs:List V}{rows:List D}{d:D}{j:Nat}{Hi H:Hp}{Q:VK}{σ:St}(hN:X.N=(["spot", "some", "bottom"]:List Str))(hsc:X.env.scope=kU){pz:Pos}
  (hσ:σ=[some (.int j),some (.ref a),some (.int b)]) (hq:SqL X.K Hi a xs∨SqT X.K Hi a xs) (hs:IsDs X.K Hi xs rows) (sm:Same Hi H) (hd:rows[j]?=some d) (hk:zJa b d=.ok k) (q:Q (.int k) H):
  ∃ t,PE X (.BinOp (.Subscript (.Subscript (.Name "some" p1) (.Name "spot" p2) p3) (.Constant (.int 0) 0 p4) p5) .Mult
   (.BinOp (.Name "bottom" p6) .FloorDiv (.Subscript (.Subscript (.Name "some" p7) (.Name "spot" p8) p9) (.Constant (.int 1) 0 pa) pb) pc) pz) t/\t σ H Q:=by
 have v0:PE X (.Name "spot" p2) (zEc 0):=tY (by rw[hN];rfl) (by rw[hsc];exact .inl (by decide +kernel))
 have v0':PE X (.Name "spot" p8) (zEc 0):=tY (by rw[hN];rfl) (by rw[hsc];exact .inl (by decide +kernel))
 have v1:PE X (.Name "some" p1) (zEc 1):=tY (by rw[hN];rfl) (by rw[hsc];exact .inr (.inr (by decide +kernel)))
 have v1':PE X (.Name "some" p7) (zEc 1):=tY (by rw[hN];rfl) (by rw[hsc];exact .inr (.inr (by decide +kernel)))
 have v2:PE X (.Name "bottom" p6) (zEc 2):=tY (by rw[hN];rfl) (by rw[hsc];exact .inr (.inr (by decide +kernel)))
 refine⟨_,zIG cC (zFf aL (zFf aL v1 v0 (fun _ _=>rfl)) aJ (fun _ _=>rfl)) (zIG cW v2 (zFf aL (zFf aL v1' v0' (fun _ _=>rfl)) aJ (fun _ _=>rfl))),?_⟩
 obtain⟨t,c,rfl,h1,h2,rfl⟩:=zMe hk;obtain⟨v,hv,r⟩:=hs.at hd;obtain⟨ra,ys,rfl,h3,h4⟩:=r.tupI;obtain⟨u1,u2,rfl,r1,r2⟩:=h4.two;have e1:=r1.intI;have e2:=r2.intI;subst e1 e2;have S3:=cQ sm h3;subst hσ
 have row:∀ Q':VK,Q' (.ref ra) H->(zPU X.K (.ref a) (.int j) H Q'∨zPV X.K (.ref a) (.int j) H Q'):=fun Q' q'=>by
  rcases hq with hq | hq
  ·exact .inl ⟨a,xs,j,.ref ra,rfl,rfl,cY sm hq,zDC hv,q'⟩
  ·exact .inr ⟨a,xs,j,.ref ra,rfl,rfl,cQ sm hq,zDC hv,q'⟩
 refine⟨.ref a,rfl,.int j,rfl,row _ (.inr ⟨ra,_,0,.int t,rfl,rfl,S3,rfl,?_⟩)⟩
 refine⟨.int b,rfl,.ref a,rfl,.int j,rfl,row _ (.inr ⟨ra,_,1,.int c,rfl,rfl,S3,rfl,?_⟩)⟩
 exact⟨b,c,rfl,rfl,h1,t,b.fdiv c,rfl,rfl,h2,q⟩
theorem zOz{a:Expr}{ta:TA}{p pos:Pos}(hg:Gl X "range")(hm:X.mg "range" = none)(ha:PA X [a] ta)(hs:starEach [a] X.env=[(false,eval a X.env)]:=by rfl):
  PE X (.Call (.Name "range" p) [a] [] pos) (fun σ H Q=>ta σ H fun vs H1=>∃ n:Nat,vs=[.int n]/\∀ r,H1 r=none->Q (.ref r) (upd H1 r (.rng 0 n))):=by
 intro pins s σ H Q I h;refine wpAny_Call_Name_kw (rQ I hg hm boot_range (VP (thn (ha pos pins s σ H _ I h) fun us s1 ⟨vs,H1,I1,r1,q1⟩=>?_) hs rfl))
 obtain⟨n,e,q⟩:=q1;subst e;obtain⟨u,rfl,t,rfl⟩:=zAN r1;refine call_range_1 ⟨.ref s1.heap.objs.size,_,I1.laid (fun b o e=>Heap.get?_push_of_some _ e) (Qh _) ?_,rfl,q _ I1.fresh⟩
 exact⟨_,_,_,Heap.get?_push_size _ rfl⟩
structure RankCx (X:Cx) (P c:Addr):Prop where
 calm:X.calm=true
 dp:X.A.depth < recursionLimit
 n0:X.N[0]?=some ("some" : Str)
 n1:X.N[1]?=some ("bottom" : Str)
 k0:X.env.kindOf "some" = some .cell
 k1:X.env.kindOf "bottom" = some .cell
 code:X.env.code=.ref c
 hd:∀ h,X.K.In h->CodeHd h c P
 qual:X.env.qual ++ "<lambda>" = sN
 bm:BMn X.base X.mg
 clo:∃ cs cb,closureFor kU X.env=pure [(("some" : Str),cs),(("bottom" : Str),cb)]/\X.env.cells.lookup ("some" : Str)=some cs/\X.env.cells.lookup ("bottom" : Str)=some cb
 gS:Gl X "sorted"
 mS:X.mg "sorted" = none
 gR:Gl X "range"
 mR:X.mg "range" = none
 gL:Gl X "len"
 mL:X.mg "len" = none
def zOW(X:Cx)(P:Addr):TE:=fun σ H Q=>∃ Hi a xs rows b kz,σ[0]?=some (some (.ref a))/\σ[1]?=some (some (.int b))/\(SqL X.K Hi a xs∨SqT X.K Hi a xs)/\IsDs X.K Hi xs rows/\Same Hi H/\oB b rows=.ok kz/\kz.length < 64/\zBF P H/\Hi P=none/\
 ∀ π r Hi' H',gX kz π->Ext Hi H Hi' H'->zJJ X.K H Hi' H' r (kB π)->Q (.ref r) H'
theorem zEw{pins:List (Addr×Obj)}{σ:St}{H:Hp}{s:Shared}{i:Nat}{x:Str}{v:V}{c:Addr}(I:Inv X pins σ H s)(hi:X.N[i]?=some x)(hv:σ[i]?=some (some v))(hk:X.env.kindOf x=some .cell)(hc:X.env.cells.lookup x=some c):∃ u,dE v u/\s.heap.IsCell c (some u):=by
 obtain⟨m,hn,hl⟩:=I.loc;obtain⟨u,r,l⟩:=hl i x v hi hv (.inr (.inl hk));refine⟨u,r,?_⟩
 rcases l with⟨z,_⟩ | ⟨_,c',z,q⟩
 ·rw[hk] at z;cases z
 ·rw[hc] at z;cases z;exact q
theorem zNc{P c:Addr}(R:RankCx X P c){pk pl pm pn:Pos}(hs1:starEach [.Name "some" p3] X.env=(false,eval (.Name "some" p3) X.env)::starEach [] X.env:=by rfl)
  (hs2:starEach [.Call (.Name "len" p2) [.Name "some" p3] [] p4] X.env=[(false,eval (.Call (.Name "len" p2) [.Name "some" p3] [] p4) X.env)]:=by rfl)
  (hs3:starEach [.Call (.Name "range" p1) [.Call (.Name "len" p2) [.Name "some" p3] [] p4] [] p5] X.env=(false,eval (.Call (.Name "range" p1) [.Call (.Name "len" p2) [.Name "some" p3] [] p4] [] p5) X.env)::starEach [] X.env:=by rfl):
  PE X (.Call (.Name "sorted" pk) [.Call (.Name "range" p1) [.Call (.Name "len" p2) [.Name "some" p3] [] p4] [] p5] [⟨some "key", .Lambda (zDa p6) (.BinOp (.Subscript (.Subscript (.Name "some" p7) (.Name "spot" p8) p9) (.Constant (.int 0) 0 pa) pb) .Mult
   (.BinOp (.Name "bottom" pc) .FloorDiv (.Subscript (.Subscript (.Name "some" pd) (.Name "spot" pe) pf) (.Constant (.int 1) 0 pg) ph) pi) pj) kU pl,pm⟩] pn) (zOW X P):=by
 intro pins s σ H Q I h;obtain⟨Hi,a,xs,rows,b,kz,e0,e1,hq,hds,sm,hkz,h64,tb,hiP,q⟩:=h;obtain⟨hl1,hl2⟩:=yR hkz;have hlen:xs.length=kz.length:=by rw[hds.length,hl1]
 refine wpAny_Call_Name_kw (rQ I R.gS R.mS boot_sorted ?_ (by decide) (by decide))
 have vS:PE X (.Name "some" p3) (zEc 0):=tY R.n0 (.inr (.inl R.k0));have pR:=zOz (p:=p1) (pos:=p5) R.gR R.mR (oE (zEk (p:=p2) (pos:=p4) aT R.gL R.mL boot_len (oE vS uR hs1) (by decide) (by decide) hs1) uR (by rw[hs2];rfl)) hs2
 refine callWith_kw (thn ((oE pR uR hs3) pn pins s σ H (fun vs H1=>∃ r,vs=[.ref r]/\H r=none/\H1=upd H r (.rng 0 kz.length)) I ?reads) fun us s1 ⟨vs,H1,I1,r1,q1⟩=>?_) (by rw[hs3];rfl) (by rw[hs3];rfl)
 case reads=>
  refine⟨.ref a,e0,a,xs,rfl,hq.imp (cY sm) (cQ sm),xs.length,rfl,fun r hr=>⟨r,rfl,hr,by rw[hlen]⟩⟩
 obtain⟨r,rfl,hr,rfl⟩:=q1;obtain⟨u,rfl,ru⟩:=zAN r1;cases ru;obtain⟨cs,cb,hcl,hcs,hcb⟩:=R.clo;have x1:Ext Hi H Hi (upd H r (.rng 0 kz.length)):=Ext.newF sm hr;refine kws_cons (zJw I1 (x1.h.t P tb) R.hd R.code R.qual R.bm hcl rfl fun f c' ctv oc vs t u H3 s3 I3 hkeep hsame hf hfs hfo hc1 hc2 hc3=>kws_nil ?_)
 have x2:Ext Hi H Hi H3:=x1.trans ⟨Same.refl _,hkeep,fun b o e=>hsame b o (x1.s _ _ e) (fun z=>by rw[z,hiP] at e;cases e),fun b e z=>absurd e z⟩
 have hr3:H3 r=some (.rng 0 kz.length):=hkeep.at bB;obtain⟨t1,t2,t3,hrg⟩:=I3.hok r _ hr3
 have I3p:Inv X (pins++[(f,kla_obj "<lambda>" sN (zDa p6) _ kU [("some", cs),("bottom", cb)] ((X.mg "__name__").getD .none) c' ctv)]) σ H3 s3:=I3.pins_of fun p hp=>by
  rcases QF.mp hp with hp | hp
  ·exact I3.pin p (Qz _ hp)
  ·rw[Qu.mp hp]
   exact⟨hfo,hf.1,hf.2.1,hf.2.2.1,fun v z=>by have z':Data.func _=Data.cell v:=z;cases z'⟩
 refine zHe (kz:=kz) R.calm I3p hrg h64 rfl (fun j tk k hj s' pl Ip=>?_) fun D s' out c2 π I' fD hDs hD hπ hV=>?_
 ·obtain⟨d,hd,hk⟩:=hl2 j k hj
  have hfo':=(Ip.pin _ (Qz _ (Vw _ (Qz _ (Qu.mpr rfl))))).1;obtain⟨u0,r0,ce0⟩:=zEw Ip R.n0 e0 R.k0 hcs;obtain⟨u1,r1,ce1⟩:=zEw Ip R.n1 e1 R.k1 hcb
  have look:∀ {x:Str} {c:Addr},List.lookup x [(("some" : Str),cs),(("bottom" : Str),cb)]=some c->(x = "some" /\ c=cs)∨(x = "bottom" /\ c=cb):=fun {x c} z=>by
   have z':=Vx z;rcases Qe.mp z' with z' | z'
   ·cases z';exact .inl ⟨rfl,rfl⟩
   ·cases Qu.mp z';exact .inr ⟨rfl,rfl⟩
  have hne:cs≠cb:=fun z=>by
   have:=Ip.ok.inj _ _ _ hcs (z ▸ hcb)
   exact absurd this (by decide)
  have lam:∃ t,PE (cxL X.prog X.w X.K X.mg X.base ["spot", "some", "bottom"] sN kU f (.ref c') [("some", cs),("bottom", cb)] X.A.in1.in1 X.stack s' H3) _ t/\t [some (.int j),some (.ref a),some (.int b)] H3 (fun v H'=>v=.int k/\H'=H3):=
   zJy (p1:=p7) (p2:=p8) (p3:=p9) (p4:=pa) (p5:=pb) (p6:=pc) (p7:=pd) (p8:=pe) (p9:=pf) (pa:=pg) (pb:=ph) (pc:=pi) (pz:=pj) rfl rfl rfl hq hds x2.s hd hk ⟨rfl,rfl⟩
  obtain⟨tt,hb,hqq⟩:=lam;refine wpAny_call (codeAny_mono (zMt (E:=fun _ _ _=>False) (p := "spot") (Ip.ok.hd R.calm) R.dp Ip.env0.in1.in1 hfo' ⟨c',oc,vs,t,rfl,(Ip.hok c' _ hc1).1,hc2,hc3⟩ rfl (by decide +kernel) rfl rfl rfl (by decide +kernel) (fun x hx=>?_) (fun x y c z1 z2=>?_) (fun x c z=>?_) rfl (fun i x v z1 z2=>?_) hb hqq) fun res s'' hres=>?_)
  ·have hx':=Vx hx
   rcases Qe.mp hx' with z | hx'
   ·cases z
   ·rcases Qe.mp hx' with z | hx'
    ·cases z;exact⟨cb,rfl⟩
    ·cases Qu.mp hx';exact⟨cs,rfl⟩
  ·rcases look z1 with⟨rfl,rfl⟩ | ⟨rfl,rfl⟩<;>rcases look z2 with⟨rfl,w⟩ | ⟨rfl,w⟩
   ·rfl
   ·exact absurd w hne
   ·exact absurd w.symm hne
   ·rfl
  ·rcases look z with⟨rfl,rfl⟩ | ⟨rfl,rfl⟩
   ·exact⟨⟨_,ce0⟩,Ip.freeC _ _ hcs⟩
   ·exact⟨⟨_,ce1⟩,Ip.freeC _ _ hcb⟩
  ·match i,z1,z2 with
   | 0,z1,z2=>cases z1;cases z2;exact .inl ⟨rfl,tk,rfl⟩
   | 1,z1,z2=>cases z1;cases z2;exact .inr ⟨by decide +kernel,cs,u0,rfl,ce0,r0⟩
   | 2,z1,z2=>cases z1;cases z2;exact .inr ⟨by decide +kernel,cb,u1,rfl,ce1,r1⟩
   | i+3,z1,z2=>simp at z2
  ·cases res with
   | error ev=>exact False.elim hres
   | ok fl=>
    cases fl with
    | ret u=>
     obtain⟨v,H',J,rv,rfl,rfl⟩:=Ip.after hres;obtain⟨t',rfl⟩:=rv;exact⟨⟨t',rfl⟩,J⟩
    | next=>exact False.elim hres
    | brk=>exact False.elim hres
    | cont=>exact False.elim hres
 ·have I'':Inv X pins σ H3 s':=I'.unpinned
  obtain⟨f0,f1,f2,f3,f4,f5⟩:=fD;have h0:X.s₀.heap.get? D=none:=Heap.get?_none_of_le (QB I3.sz hDs);have hl:=hV.length
  have okL:lV X.prog X.w (upd H3 D (.lst (π.map fun i:Nat=>V.int (i:Int)))) s'.heap D (.lst (π.map fun i:Nat=>V.int (i:Int))):=by
   refine⟨?_,out.toList,c2,hV,by rw[Array.toArray_toList];exact hD⟩
   rw[Qg,hπ.1.length_eq,QA,sizeLine_eq];omega
  have I4:=I''.track f0 h0 f1 f4 (fun p hp=>f5 p (by
   rcases QF.mp hp with hp | hp
   ·exact Vw _ hp
   ·exact Qz _ (Vw _ hp))) okL
  refine⟨.ref D,_,I4,rfl,q π D Hi _ hπ (x2.trans (Ext.newF x2.s f0)) ⟨x2.h.none f0,x2.s.none f0,_,bB,zBS π⟩⟩
end
def spR(K:PySem.W.Frag)(mg:Str->Option Value)(kf:List D->Res (List Int)):Sp:=fun vs H Q _=>vs.length=1/\∃ Bi ds,TB K mg Bi H/\Same Bi H/\IsDs K Bi vs ds/\match kf ds with
 | .ok kz=>∀ π a Hi' H',gX kz π->Ext Bi H Hi' H'->zJJ K H Hi' H' a (kB π)->Q (.ref a) H'
 | _=>False
structure CanR (P:Program) (w:World) (K:PySem.W.Frag) (mg:Str->Option Value) (base:Heap) (k:Nat) (kf:List D->Res (List Int)):Prop where
 ex:∃ f fd,FnOk P w K mg base (CX1 P w) k f fd ["some"] (spR K mg kf)/\zCi K fd ["some"] []/\PySem.W.keepIn K (.ref f)=true/\mg "ranked" = some (.ref f)
theorem CanR.mono{P:Program}{w:World}{K:PySem.W.Frag}{mg:Str->Option Value}{base:Heap}{j k:Nat}{kf:List D->Res (List Int)}(c:CanR P w K mg base j kf)(h:j<=k):CanR P w K mg base k kf:=by
 obtain⟨f,fd,F,r⟩:=c.ex;exact⟨⟨f,fd,F.mono h,r⟩⟩
structure RankDef (st:Stmt):Prop where
 k0:(aI st).names.lookup ("some" : Str)=some .cell
 k1:(aI st).names.lookup ("bottom" : Str)=some .cell
 gS:(aI st).names.lookup ("sorted" : Str)=some .globalImplicit
 gR:(aI st).names.lookup ("range" : Str)=some .globalImplicit
 gL:(aI st).names.lookup ("len" : Str)=some .globalImplicit
 clo:∀ L f cdv,∃ cs cb,closureFor kU (envOfC "ranked" (aI st) L f cdv)=pure [(("some" : Str),cs),(("bottom" : Str),cb)]/\(envOfC "ranked" (aI st) L f cdv).cells.lookup ("some" : Str)=some cs/\(envOfC "ranked" (aI st) L f cdv).cells.lookup ("bottom" : Str)=some cb
section
variable{P:Program}{w:World}{K:PySem.W.Frag}{mg:Str->Option Value}{base:Heap}{st s1 s2:Stmt}{f:Addr}{fd:FuncData}{k:Nat}{sa sb:Sv}{p1 p2 p3 p4 p5 p6 p7 p8 p9 pa pb pc pd pe pf pg ph pi pj pk pl pm pn po:Pos}
theorem zLN{T:Addr}(F:Fn K mg "ranked" st ["some"] f fd)(S:FnScope ["some", "bottom", "each"] ["some"] (aI st))(D:RankDef st)(hT:pL K mg T)(hB:BMn base mg)(mS:mg "sorted" = none)(mR:mg "range" = none)(mL:mg "len" = none)
  (hbody:fR st=[s1,s2,.Return (some (.Call (.Name "sorted" pk) [.Call (.Name "range" p1) [.Call (.Name "len" p2) [.Name "some" p3] [] p4] [] p5] [⟨some "key", .Lambda (zDa p6) (.BinOp (.Subscript (.Subscript (.Name "some" p7) (.Name "spot" p8) p9) (.Constant (.int 0) 0 pa) pb) .Mult
   (.BinOp (.Name "bottom" pc) .FloorDiv (.Subscript (.Subscript (.Name "some" pd) (.Name "spot" pe) pf) (.Constant (.int 1) 0 pg) ph) pi) pj) kU pl,pm⟩] pn)) po])
  (h:∀(cdv:Value)(A:Around)(outer:List Env)(s:Shared)(H:Hp)(E:XK)(G:Gx),Good (BX P w K mg base ["some", "bottom", "each"] "ranked" st f cdv A outer s H E) G k->zHE (BX P w K mg base ["some", "bottom", "each"] "ranked" st f cdv A outer s H E) G->
   PSd (BX P w K mg base ["some", "bottom", "each"] "ranked" st f cdv A outer s H E) G s1 sa/\PSd (BX P w K mg base ["some", "bottom", "each"] "ranked" st f cdv A outer s H E) G s2 sb):
  CanR P w K mg base (k+1) (yU sa sb):=by
 refine⟨f,fd,?_,F.bd,F.kp,F.mg⟩
 obtain⟨f',oc',od',fd',osl',c,t1,t2,t3,t4⟩:=id hT;have ef:f'=f:=by have:=t1.symm.trans F.mg;exact Value.ref.inj (QK this)
 subst ef;obtain⟨oc,od,kV,doc,pm',an,cdv,ct,osl,rfl,lk,hcd⟩:=F.fn.ex
 have efd:cdv=.ref c:=by
  rw[lk] at t2;cases t2;exact t3
 subst efd;refine zNK lk hcd S (fun vs H Q E h=>h.1) fun A outer s H vs Q E hr hsp=>?_
 obtain⟨hl,Bi,ds,tb,sm,hd,hq⟩:=hsp;have hg:=zGl (P:=P) (w:=w) (K:=K) (mg:=mg) (base:=base) (N:=["some", "bottom", "each"]) (outer:=outer) (H:=H) (Bi:=Bi) (E:=E) hr tb;obtain⟨h1,h2⟩:=h (.ref c) A outer s H E _ hg zEI
 have RC:RankCx (BX P w K mg base ["some", "bottom", "each"] "ranked" st f' (.ref c) A outer s H E) T c:=
  ⟨rfl,hr.depth,rfl,rfl,D.k0,D.k1,rfl,t4,by show(("ranked" : Str) ++ ".<locals>.") ++ "<lambda>" = sN;decide +kernel,hB,D.clo _ _ _,D.gS,mS,D.gR,mR,D.gL,mL⟩
 have body:∀ G,PSs (BX P w K mg base ["some", "bottom", "each"] "ranked" st f' (.ref c) A outer s H E) [s1] (tS (BX P w K mg base ["some", "bottom", "each"] "ranked" st f' (.ref c) A outer s H E) G sa)->PS (BX P w K mg base ["some", "bottom", "each"] "ranked" st f' (.ref c) A outer s H E) s1 (tS (BX P w K mg base ["some", "bottom", "each"] "ranked" st f' (.ref c) A outer s H E) G sa)->PS (BX P w K mg base ["some", "bottom", "each"] "ranked" st f' (.ref c) A outer s H E) s2 (tS (BX P w K mg base ["some", "bottom", "each"] "ranked" st f' (.ref c) A outer s H E) G sb)->
   PSs (BX P w K mg base ["some", "bottom", "each"] "ranked" st f' (.ref c) A outer s H E) (fR st) (zQj (tS (BX P w K mg base ["some", "bottom", "each"] "ranked" st f' (.ref c) A outer s H E) G sa) (zQj (tS (BX P w K mg base ["some", "bottom", "each"] "ranked" st f' (.ref c) A outer s H E) G sb) (zRk (zOW (BX P w K mg base ["some", "bottom", "each"] "ranked" st f' (.ref c) A outer s H E) T)))):=fun G _ h1 h2=>by
  rw[hbody];exact sX h1 (sX h2 (zDJ (zEV (zNc RC))))
 refine⟨_,body _ (zDJ h1) h1 h2,?_⟩
 cases ek:yU sa sb ds with
 | no=>rw[ek] at hq;exact hq.elim
 | err c=>rw[ek] at hq;exact hq.elim
 | ok kz=>
  rw[ek] at hq;unfold yU at ek;split at ek
  case isFalse=>cases ek
  split at ek
  case h_2=>cases ek
  rename_i ρ1 e1
  split at ek
  case h_2=>cases ek
  rename_i ρ2 e2
  refine⟨L3.start 3 ds,Bi,zAZ (N:=["some", "bottom", "each"]) sm hd,?_⟩
  rw[e1];intro σ1 Hi1 H1 sm1 R1;refine⟨ρ1,Hi1,R1,?_⟩
  rw[e2];intro σ2 Hi2 H2 sm2 R2;unfold zEO at ek;split at ek
  case h_2=>cases ek
  rename_i rows b z0 z1
  split at ek
  case isFalse=>cases ek
  rename_i h64
  obtain⟨v,q0,r0⟩:=R2.slot 0 _ z0;obtain⟨v1,q1,r1⟩:=R2.slot 1 _ z1;obtain⟨a,xs,rfl,g1,g2⟩:=r0.lstI;have r1':=r1.intI;subst r1';obtain⟨tb2,n2⟩:=hg.tb.ext R2.ext T hT;exact⟨Hi2,a,xs,rows,b,kz,q0,q1,.inl g1,g2,R2.s,ek,by rw[(yR ek).1];exact h64,tb2,n2,fun π r Hi' H' hπ x nl=>hq π r Hi' H' hπ (R2.ext.trans x) ⟨R2.ext.h.none nl.1,nl.2⟩⟩
end
section
variable{X:Cx}{G:Gx}{e:Expr}{es:List Expr}{pos p:Pos}{fs:Fv}{k:Nat}{kf:List D->Res (List Int)}{tg:Expr}{body rest:List Stmt}{g:Gv}{sa sb:Sv}
def tIr(X:Cx)(G:Gx)(fs:Fv)(kf:List D->Res (List Int)):TI:=fun σ H R=>∃ ρ Hi,lN X G Hi H σ ρ/\Out G Hi H ((fs ρ).bind kf) fun kz Hi' H'=>∀ π J,gX kz π->wK X.K Hi' J (kB π)->R J H'
theorem zNB(W:Good X G k)(c:CanR X.prog X.w X.K X.mg X.base k kf)(hkf:∀ ds c,kf ds≠.err c)(hk1:∀ ds,kf ds≠.no->ds.length=1)(hg:Gl X "ranked")(ha:PAd X G [e] fs)(he:starEach [e] X.env=(false,eval e X.env)::starEach [] X.env:=by rfl):
  PI X tg (.Call (.Name "ranked" p) [e] [] pos) (tIr X G fs kf):=by
 obtain⟨f,fd,F,b,kp,hm⟩:=c.ex;refine PI.wk (zLV (zCU F W.room hg hm kp b .nil W.pass ha (by decide) he rfl)) fun σ H R q=>?_
 obtain⟨ρ,Hi,Rl,ou⟩:=q;refine zKo Rl ou fun vs ds Hi1 H1 e1 R1 r1 o1=>?_
 rw[QS];have hno:kf ds≠.no:=fun z=>by rw[z] at o1;exact o1
 refine⟨by rw[r1.length];exact hk1 ds hno,Hi1,ds,W.tb.ext R1.ext,R1.s,r1,?_⟩
 cases z:kf ds with
 | no=>exact absurd z hno
 | err c=>exact absurd z (hkf ds c)
 | ok kz=>
  rw[z] at o1;intro π a Hi2 H2 hπ e2 n;obtain⟨n1,n2,xs,n3,n4⟩:=n;have x3:=e2.hold n1 n3 n2;refine⟨a,rfl,⟨xs,SqL.of n3⟩,o1 _ _ x3 π _ hπ (zBu (SqL.of bB) (n4.mono (dB n2 _)))⟩
theorem zIk(W:Good X G k)(c:CanR X.prog X.w X.K X.mg X.base k kf)(hkf:∀ ds c,kf ds≠.err c)(hk1:∀ ds,kf ds≠.no->ds.length=1)(hg:Gl X "ranked")(ha:PAd X G [e] fs)(hgt:PGd X G tg g)(hge:∀ d ρ c,g d ρ≠.err c)(hb:fO X G body sa)(hr:fO X G rest sb)
  (he:starEach [e] X.env=(false,eval e X.env)::starEach [] X.env:=by rfl) {pf:Pos} (hs:∀ x,foldedSetIterable (.Call (.Name "ranked" p) [e] [] pos) X.env x=pure x:=by intro _;rfl):
  fO X G (.For tg (.Call (.Name "ranked" p) [e] [] pos) body [] pf::rest) (zHD fs kf g sa sb):=by
 refine PSs.wk (sX (zLa W.own W.calm (zNB W c hkf hk1 hg ha he) hgt hb hs) hr) fun E σ H q=>?_
 obtain⟨ρ,Hi,R,h⟩:=q;refine⟨ρ,Hi,R,nN R h fun kz Hi1 H1 _ e1 h1 π J hπ gv=>?_⟩
 have hn:oC kz (fun π=>bD (fun ρ=>gO g sa (kB π) ρ) sb ρ)≠.no:=fun z=>by rw[z] at h1;exact h1
 rw[<-zFt hn hπ] at h1;exact zLv hge (R.grow e1) (zOV (sa:=fun ρ=>gO g sa (kB π) ρ) h1) gv
end
def zPX(K:PySem.W.Frag)(mg:Str->Option Value):Sp:=fun vs H Q _=>∃(a:Addr)(ns:List Int)(Bi:Hp),vs=[.ref a]/\TB K mg Bi H/\Same Bi H/\SqL K Bi a (ns.map V.int)/\ns.length<=63/\(∃ m,m<=1048576/\∀ n∈ns,n.natAbs < 2^m)/\∀ H',Q (.bl true) H'
theorem zMm{P:Program}{w:World}{K:PySem.W.Frag}{mg:Str->Option Value}{base:Heap}{k:Nat}{m:Mir}{f:Addr}{fd:FuncData}(F:FnOk P w K mg base (CX1 P w) k f fd ["script"] (spM K mg 1 m))
  (h:∀ ns:List Int,ns.length<=63->(∃ m,m<=1048576/\∀ n∈ns,n.natAbs < 2^m)->m [.lst (ns.map D.int)]=.ok (.v (.bl true))):FnOk P w K mg base (CX1 P w) k f fd ["script"] (zPX K mg):=by
 refine F.imp fun vs H Q E q=>?_
 obtain⟨a,ns,Bi,rfl,tb,sm,hS,hl,hbg,q⟩:=q;refine⟨rfl,Bi,[.lst (ns.map D.int)],tb,sm,.cons (.lst hS (zBG ns)) .nil,?_⟩
 rw[h ns hl hbg];intro v Hi' H' e r;rw[r.blI];exact q H'
theorem zJz{K:PySem.W.Frag}{mg:Str->Option Value}{h:Heap}{T T':Addr}(X:K.In h)(a:pL K mg T)(b:pL K mg T'):T'=T:=by
 obtain⟨f,oc,od,fd,osl,c,a1,a2,a3,a4⟩:=a;obtain⟨f',oc',od',fd',osl',c',b1,b2,b3,b4⟩:=b;rw[a1] at b1;cases b1
 rw[a2] at b2;cases b2
 rw[a3] at b3;cases b3
 obtain⟨o,vs,_,_,_,_,_,_,_,e1,_,e3,e4,_⟩:=a4 h X;obtain⟨o',vs',_,_,_,_,_,_,_,f1,_,f3,f4,_⟩:=b4 h X;rw[e1] at f1;cases f1
 rw[e3] at f3;cases f3
 rw[e4] at f4;cases f4
 rfl
theorem zHR{P:Program}{w:World}{K:PySem.W.Frag}{mg mb:Str->Option Value}{CX:CXT}{k:Nat}{fa a T:Addr}{fd:FuncData}{x:Str}{s₁:Shared}{vs:List Value}{ns:List Int}
  (KX:K.In s₁.heap) (hns:s₁.heap.Ns mainGlobals mg) (hb:s₁.heap.Ns builtinsNs mb) (hbb:∀ x:Str,x ≠ "__name__" -> mb x=bootBuiltins x) (hlim:s₁.heap.NoLimit) (hg:s₁.gens=#[]) (hbm:BMn s₁.heap mg) (hT:s₁.heap.get? T=some (tabObj #[])) (hKT:K.lookup T=none) (hP:pL K mg T)
  (ha:s₁.heap.get? a=some { cls:=.type "list", data:=.seq vs.toArray }) (hi:IntsAre vs ns) (hl:ns.length<=63) (hbg:∃ m,m<=1048576/\∀ n∈ns,n.natAbs < 2^m) (hr:Room k callerA)
  (F:∀ base:Heap,K.In base->base.Ns mainGlobals mg->BMn base mg->FnOk P w K mg base CX k fa fd [x] (zPX K mg)) (hbind:∀(s:Shared)(u:Value),BindsTo s fd ⟨[u],[]⟩ [(x,u)])
  (hCX:∀ H e s',CX [] H s₁ (fun _ _ _=>False) e s'->False):
  codeAny (model P w) callerA (.call (.ref fa) ⟨[.ref a],[]⟩) (fun r s'=>r=.ok (.ret (.bool true))/\OldK s₁.heap s'.heap/\s'.os=s₁.os/\AllBare s'.gens) s₁:=by
 have rv:=zBC hi;have lenV:=hi.length;have haT:a≠T:=fun z=>by rw[z,hT] at ha;cases ha
 have core:∀ Bi:Hp,zRN Bi->SqL K Bi a (ns.map V.int)->HOk P w Bi s₁.heap->(∀ b,Bi b≠none->b=a)->(Bi a≠none->K.lookup a=none)->
   codeAny (model P w) callerA (.call (.ref fa) ⟨[.ref a],[]⟩) (fun r s'=>r=.ok (.ret (.bool true))/\OldK s₁.heap s'.heap/\s'.os=s₁.os/\AllBare s'.gens) s₁:=by
  intro Bi hO hS hokB hA hK
  have hBT:Bi T=none:=by
   cases q:Bi T with
   | none=>rfl
   | some u=>exact absurd (hA T (by rw[q];simp)).symm haT
  generalize hHdef:upd Bi T (.tbl #[])=H;have HT:H T=some (.tbl #[]):=by rw[<-hHdef,bB]
  have Hne:∀ {b},b≠T->H b=Bi b:=fun z=>by rw[<-hHdef,bA z]
  have sm:Same Bi H:=fun b o e=>by rw[Hne (bE e hBT)];exact e
  have hok:HOk P w H s₁.heap:=fun b u e=>by
   by_cases hb:b=T
   ·subst hb;rw[HT] at e;cases e;exact hT
   ·rw[Hne hb] at e
    exact(hokB b u e).stay (fun c v _ q=>q) (fun c q=>sm _ _ q) fun c xs q=>sm _ _ q
  have only:∀ {b:Addr} {o:Obj},s₁.heap.get? b=some o->(∀ xs n,o.data≠.seq xs n)->(∀ vs,o.data≠.fields vs)->H b=none:=fun {b o} e d1 d2=>by
   by_cases hb:b=T
   ·subst hb;rw[hT] at e;cases e;exact absurd rfl (d2 #[])
   ·rw[Hne hb]
    cases q:Bi b with
    | none=>rfl
    | some u=>
     have e':b=a:=hA b (by rw[q];simp)
     subst e';rw[ha] at e;cases e
     exact absurd rfl (d1 _ _)
  have base_of:∀ {b:Addr} {o:Obj},s₁.heap.get? b=some o->H b=none->(zIZ s₁.heap H).get? b=some o:=fun e n=>zJv e n
  have nsK:∀ {b:Addr} {m:Str->Option Value},s₁.heap.Ns b m->(zIZ s₁.heap H).Ns b m:=fun {b m} ⟨o,es,ep,e,d,r⟩=>⟨o,es,ep,base_of e (only e (fun xs n z=>by rw[d] at z;cases z) (fun vs z=>by rw[d] at z;cases z)),d,r⟩
  have hKb:K.In (zIZ s₁.heap H):=fun b o e=>base_of (KX b o e) (by
   by_cases hb:b=T
   ·subst hb;rw[hKT] at e;cases e
   ·rw[Hne hb]
    cases q:Bi b with
    | none=>rfl
    | some u=>
     have e':b=a:=hA b (by rw[q];simp)
     subst e'
     rw[hK (by rw[q];simp)] at e;cases e)
  have hBb:BMn (zIZ s₁.heap H) mg:=by
   obtain⟨bm,ob,b1,b2,b3,b4,b5,b6⟩:=hbm;exact⟨bm,ob,b1,b2,base_of b3 (only b3 (fun xs n z=>by rw[b6] at z;cases z) (fun vs z=>by rw[b6] at z;cases z)),b4,b5,b6⟩
  have hM:Mod K mg (zIZ s₁.heap H):=⟨hKb,nsK hns,⟨mb,nsK hb,hbb⟩,let ⟨mc,h1,h2⟩:=hlim;⟨mc,nsK h1,h2⟩⟩;have e0:Env0 P w K mg (zIZ s₁.heap H) callerA [] s₁ H:=⟨rfl,hM,fun b o e=>zMW e,X2 (zHj _ _),trivial,fun b hb=>absurd (show b∈([]:List Addr) from hb) (by simp),hok,.of_eq hg⟩
  have htb:TB K mg Bi H:=fun T' h'=>by
   have e':=zJz KX hP h';subst e';exact⟨⟨#[],HT,trivial,fun pos cv z=>by cases z⟩,hBT⟩
  refine codeAny_mono ((F _ hKb (nsK hns) hBb).run callerA [] s₁ H ⟨[.ref a],[]⟩ [.ref a] [.ref a] (fun v _=>v=.bl true) (fun _ _ _=>False) hr e0 (hbind s₁ (.ref a)) (.cons rfl .nil) ⟨a,ns,Bi,rfl,htb,sm,hS,hl,hbg,fun _=>rfl⟩) fun r s' h=>?_
  cases r with
  | error e=>exact(hCX H e s' h).elim
  | ok fl=>
   cases fl with
   | next=>exact False.elim h
   | brk=>exact False.elim h
   | cont=>exact False.elim h
   | ret u=>
    obtain⟨v,H',os,bare,un,hok',r',q⟩:=h;have q':v=.bl true:=q;subst q';obtain rfl:u=Value.bool true:=r';refine⟨rfl,⟨fun b o e=>?_,fun b o e=>un.there b o e (by simp)⟩,os,bare⟩
    by_cases hbT:b=T
    ·subst hbT
     obtain⟨more,z⟩:=un.tbls b _ HT;have z2:s'.heap.get? b=some { cls:=.none,data:=.fields (#[]++more) }:=hok' b _ z;rw[hT] at e;cases e
     obtain⟨f,oc,od,fd',osl,c,a1,a2,a3,a4⟩:=hP;obtain⟨o,vs,_,_,_,_,_,_,_,e1,e2,e3,e4,_⟩:=a4 _ KX;exact .inr (.inl ⟨⟨c,o,vs,e1,e2,e3,e4⟩,rfl,#[],more,rfl,z2⟩)
    ·refine .inl ?_
     cases q:H b with
     | none=>exact un.keep b o e q (by intro z;exact absurd (show b∈([]:List Addr) from z) (by simp)) (by simp)
     | some u=>
      rw[Hne hbT] at q;rcases hO b with z | ⟨ob,xs,z⟩
      ·rw[q] at z;cases z
      ·have z2:=un.frzs b ob _ (by rw[Hne hbT];exact z)
       obtain⟨e1,_⟩:=hokB b _ z;obtain⟨e2,_⟩:=hok' b _ z2;rw[e] at e1;cases e1
       exact e2
 cases hk:K.lookup a with
 | some o=>
  have e:=KX a o hk;rw[ha] at e;cases e;refine core (fun _=>none) (fun _=>.inl rfl) (.inr ⟨_,vs.toArray,_,hk,rfl,rfl,rfl,by rw[Qk,lenV,sizeLine_eq];omega,by simpa using rv⟩) (fun b u z=>by have z':(none:Option HO)=some u:=z;cases z') (fun b z=>absurd rfl z) fun z=>absurd rfl z
 | none=>
  refine core (fun b=>if b=a then some (.frz { cls:=.type "list", data:=.seq vs.toArray } (.lst (ns.map V.int))) else none) (fun b=>?_) (.inl (.inr ⟨{ cls:=.type "list", data:=.seq vs.toArray },if_pos rfl⟩)) (fun b u z=>?_) (fun b z=>?_) fun _=>hk
  ·by_cases hb:b=a
   ·exact .inr ⟨_,_,if_pos hb⟩
   ·exact .inl (if_neg hb)
  ·by_cases hb:b=a
   ·have z':=(if_pos hb).symm.trans z
    cases z'
    subst hb;exact⟨ha,by rw[Qg,sizeLine_eq];omega,vs,_,rv,ha⟩
   ·have z':=(if_neg hb).symm.trans z
    cases z'
  ·by_cases hb:b=a
   ·exact hb
   ·exact absurd (if_neg hb) z
theorem zLf:∀ {ns:List Int} {n:Int},n∈ns->(WData.int n).weight<=WData.weightAll (ns.map WData.int)
 | a::r,n,h=>by
  rw[Qv,WData.weightAll];rcases Qe.mp h with rfl | h
  ·omega
  ·have:=zLf h
   omega
theorem zMA{ns:List Int}(h:WData.layableAll [WData.list (ns.map WData.int)]=true):(∃ m,m<=1048576/\∀ n∈ns,n.natAbs < 2^m):=by
 refine⟨1048576,Qh _,fun n hn=>?_⟩
 have w:WData.weightAll (ns.map WData.int)<=2^20:=by
  unfold WData.layableAll WData.layable at h;simp only[List.all_cons,List.all_nil,Bool.and_true,Va,decide_eq_true_eq] at h;have:=h.2
  rw[WData.weight] at this;exact this
 have a:=zLf hn;rw[WData.weight] at a;by_cases z:n=0
 ·subst z
  exact Nat.two_pow_pos _
 ·rw[if_neg (by simpa using z)] at a
  exact Qo Nat.lt_log2_self (Q2 (by decide) (by omega))
open PySem.Calls in
theorem zBY{l:OpenLaw}{n:Nat}{q:Program}{loose:List Str}{XP:(Str->Option Value)->Heap->Prop}{YP:World->Heap->Prop}{d:DefRec}
  (hn:l.most=some n) (hdf:d.params.defaults=[])
  (call:∀(w:World)(s₀ s₁:Shared)(mg mb:Str->Option Value)(fa:Addr)(o:Obj)(pm cd doc:Value)(a:Addr)(vs:List Value)(ns:List Int),(∃ m,m<=1048576/\∀ n∈ns,n.natAbs < 2^m)->
   Ground q loose [] XP w s₀ mg mb s₁.heap->YP w s₁.heap->
   s₁.heap.get? fa=some o->o.data=.func (docDef d.name d.params d.body d.scope pm cd doc)->s₁.heap.CodeRec cd d.name->mg d.name=some (.ref fa)->
   s₁.heap.get? a=some { cls:=.type "list", data:=.seq vs.toArray }->IntsAre vs ns->ns.length<=n->s₁.gens=#[]->
   codeAny (model l.prog w) callerA (.call (.ref fa) ⟨[.ref a],[]⟩) (fun r s'=>r=.ok (.ret (.bool true))/\OldK s₁.heap s'.heap/\s'.os=s₁.os/\AllBare s'.gens) s₁):
  WalkO q loose XP YP l.row.toRowW d [] (fun f vs=>PySem.call f vs):=by
 intro w s₀ s₁ mg mb G Y fa o pm cd doc dV kV ho hd hcd hD hmg hg args vals as hpre hlay hrd hwl hlo;obtain rfl:dV=.none:=Dflts.none hD hdf;obtain rfl:kV=.none:=Dflts.noKw hD;obtain⟨a,vs,ns,rfl,rfl,hobj,hints,hlen⟩:=Att.script_of hn hpre hwl;refine enter_call (codeAny_mono (call w s₀ s₁ mg mb fa o pm cd doc a vs ns (zMA hlay) G Y ho (fd_plain hd) hcd hmg hobj hints hlen hg) fun r s' hq=>?_)
 obtain⟨rfl,h2,h3,h4⟩:=hq;exact⟨.inl ⟨.bool true,.bool true,[],rfl,fun _=>rfl,.bool true,Att.post_true l _,fun _=>⟨List.Pairwise.nil,fun _ hm=>(nomatch hm)⟩⟩,h2,h3,h4⟩
theorem zQA{l:PySem.W.OpenLaw}{k:Nat}{q:Program}{loose:List Str}{XP:(Str->Option Value)->Heap->Prop}{YP:World->Heap->Prop}{d:DefRec}{K:Params->PySem.W.Frag}{T:Addr}(hn:l.most=some 63)(hdf:d.params.defaults=[])(hr:Room k callerA)
  (hY:∀(w:World)(h:Heap),YP w h->(K w.params).In h) (hT:∀(w:World)(h:Heap),YP w h->h.get? T=some (tabObj #[]))
  (F:∀(w:World)(mg:Str->Option Value)(fa:Addr)(h:Heap),(K w.params).In h->h.Ns mainGlobals mg->mg d.name=some (.ref fa)->
   (K w.params).lookup T=none/\pL (K w.params) mg T/\∃ fd:FuncData,(∀(s:Shared)(u:Value),BindsTo s fd ⟨[u],[]⟩ [("script", u)])/\∀ base:Heap,(K w.params).In base->base.Ns mainGlobals mg->BMn base mg->FnOk l.prog w (K w.params) mg base (CX1 l.prog w) k fa fd ["script"] (zPX (K w.params) mg)):
  PySem.W.WalkO q loose XP YP l.row.toRowW d [] (fun f vs=>PySem.call f vs):=by
 refine zBY hn hdf fun w s₀ s₁ mg mb fa o pm cd doc a vs ns hbg G Y ho hd hcd hmg hobj hints hlen hg=>?_
 have KX:=hY w _ Y;obtain⟨h1,h2,fd,hb,hF⟩:=F w mg fa _ KX G.T.g hmg
 exact zHR KX G.T.g G.T.b G.T.builtins G.T.nolimit hg G.T.bmain (hT w _ Y) h1 h2 hobj hints hlen hbg hr hF hb fun _ _ _ z=>by
  obtain⟨_,_,_,_,_,z⟩:=z;exact z
section
variable{X:Cx}{G:Gx}{pins:List (Addr×Obj)}{σ:St}{H Hi:Hp}{s:Shared}{ρ:Rho}{i k:Nat}{st:Stmt}{sa:Sv}
end
section
variable{X:Cx}{G:Gx}{e a:Expr}{f g:Ev}{pos:Pos}
end
section
variable{X:Cx}{G:Gx}{st:Stmt}{rest:List Stmt}{sa sb:Sv}{u:TS}
end
section
variable{P:Program}{w:World}{K:PySem.W.Frag}{mg:Str->Option Value}{base:Heap}{N ps:List Str}{x:Str}{st:Stmt}{f:Addr}{fd:FuncData}{k i0 i1 i2:Nat}{sv:Sv}
end
section
variable{X:Cx}{G:Gx}{e:Expr}{es:List Expr}{pos p:Pos}{fs:Fv}{k j0 j1 j2:Nat}{kf:List D->Res Tri}{x:Str}{ps:List Str}{tg:Expr}
end
def Itq(K:PySem.W.Frag)(a:Addr)(n:Nat):It:=
 ⟨fun i H=>∃ xs x,SqL K H a xs/\xs.length=n/\xs.reverse[i]?=some x,fun i H x H'=>H'=H/\∀ xs,SqL K H a xs->xs.reverse[i]?=some x,fun i H=>∃ xs,SqL K H a xs/\n<=i⟩
def rix(n i:Nat):Int:=(n:Int) - 1 - ((min i n:Nat):Int)
theorem zGx{P:Program}{w:World}{K:PySem.W.Frag}{tg:Expr}(a it:Addr)(n:Nat):Turn P w K tg (Itq K a n) [it] it (fun i h=>h.IsRevIter it a (rix n i)) where
 mem:=by simp
 obj:=fun i h st b hb=>by
  have e:b=it:=by simpa using hb
  subst e;obtain⟨o,e,c,d⟩:=st;exact⟨o,e,fun v z=>by rw[d] at z;cases z⟩
 keep:=fun i h h' st k=>st.at fun o e=>k it (by simp) o e
 item:=by
  intro X hP hw hK hc i pins s σ H E I hf st hg;subst hP hw hK;obtain⟨xs,x,hq,hn',hx⟩:=hg;obtain⟨its,rv,p,hz⟩:=I.list hq
  have hi:i < xs.length:=by
   have:=(Qx.mp hx).1
   rwa [Q4] at this
  have hx':xs[n - 1 - i]?=some x:=by
   rw[X4 hi,hn'] at hx;exact hx
  obtain⟨u,hu,ru⟩:=rv.get hx';obtain⟨f0,f1,f2,f3,f4,f5⟩:=hf it (by simp)
  have st0:s.heap.IsRevIter it a ((n - 1 - i:Nat):Int):=by
   have e:rix n i=((n - 1 - i:Nat):Int):=by unfold rix;rw[VU (by omega)];omega
   rw[<-e];exact st
  refine wpAny_pyNext_rev_item (items:=its.toArray) st0 p.isList (x:=u) (by simpa using hu) fun h' st' sb=>?_
  have I1:Inv X pins σ H { s with heap:=h' }:=I.turned (t':=s.toks) (fun b o hb e=>(sb.2 b hb).trans e) f0 f1 f3 f4 f5
  obtain⟨o,e,c,d⟩:=id st'
  have st2:h'.IsRevIter it a (rix n (i+1)):=by
   have e:rix n (i+1)=((n - 1 - i:Nat):Int) - 1:=by unfold rix;rw[VU (by omega)];omega
   rw[e];exact st'
  exact⟨u,rfl,zKu (s:={ s with heap:=h' }) e c d (by decide) ⟨x,H,I1,ru,⟨rfl,fun ys hy=>by rw[I.list_inj hy hq];exact hx⟩,st2,fun b hb=>(hf b hb).1⟩⟩
 done:=by
  intro X hP hw hK hc i pins s σ H E I hf st hg;subst hP hw hK;obtain⟨xs,hq,hx⟩:=hg;obtain⟨f0,f1,f2,f3,f4,f5⟩:=hf it (by simp)
  have st0:s.heap.IsRevIter it a (-1):=by
   have e:rix n i=-1:=by unfold rix;rw[Xj hx];omega
   rw[<-e];exact st
  exact wpAny_pyNext_rev_end (I.ok.hd hc) st0 fun h' eb=>⟨rfl,I.turned (t':=s.toks) (fun b o hb e=>eb b o hb e) f0 f1 f3 f4 f5⟩
 self:=fun _ _ _ _ _ st h=>wpAny_pyIter_revIter st h
section
variable{X:Cx}{G:Gx}{fs:Fv}{f:Ev}
def iRw(K:PySem.W.Frag)(ta:TA):TI:=fun σ H R=>ta σ H fun vs H1=>∃ a xs,vs=[.ref a]/\SqL K H1 a xs/\R (Itq K a xs.length) H1
theorem zLI{tg a:Expr}{ta:TA}{p pos:Pos}(hg:Gl X "reversed")(hm:X.mg "reversed" = none)(ha:PA X [a] ta)(hs:starEach [a] X.env=[(false,eval a X.env)]:=by rfl):PI X tg (.Call (.Name "reversed" p) [a] [] pos) (iRw X.K ta):=by
 intro pins s σ H R I h;refine Call_ (rQ I hg hm zKk (VP (thn (ha pos pins s σ H _ I h) fun us s1 ⟨vs,H1,I1,r1,q1⟩=>?_) hs rfl))
 obtain⟨t,xs,rfl,hq,q⟩:=q1
 cases r1 with
 | cons r rr=>
  cases rr;cases r;obtain⟨its,rv,pt,hz⟩:=I1.list hq;have hl:=rv.length;refine call_reversed_list (items:=its.toArray) pt.isList ?_
  have hR:(s1.heap.push (revObj t ((its.toArray.size:Int) - 1))).IsRevIter s1.heap.objs.size t (rix xs.length 0):=
   ⟨_,Heap.get?_push_size _ rfl,rfl,by unfold rix;rw[hl,Qk];simp[revObj]⟩
  refine wpAny_pyIter_revIter (s:={ s1 with heap:=_ }) hR ?_
  refine⟨s1.heap.objs.size,[s1.heap.objs.size],_,_,H1,rfl,I1.kept (t':=s1.toks) fun b o e=>Heap.get?_push_of_some _ e,zGx t _ xs.length,hR,fun b hb=>?_,q⟩
  have e:b=s1.heap.objs.size:=by simpa using hb
  subst e;exact I1.fpOk (Qh _) (I1.hok.fresh (Qh _))
theorem zFw{K:PySem.W.Frag}{Hi:Hp}{a:Addr}{xs:List V}{ds:List D}(h1:SqL K Hi a xs)(h2:IsDs K Hi xs ds):wK K Hi (Itq K a xs.length) ds.reverse:=fun Hi1 H1 s1 s2 i=>by
 have h3:=cY (s1.trans s2) h1;have hl:=h2.length;refine⟨fun hl'=>⟨xs,h3,by rw[Q4] at hl';omega⟩,fun d hd=>?_⟩
 have hi:i < ds.length:=by
  have:=(Qx.mp hd).1
  rwa [Q4] at this
 rw[X4 hi] at hd;obtain⟨v,hv,r⟩:=h2.at hd;have hv':xs.reverse[i]?=some v:=by rw[X4 (by omega),hl];exact hv
 refine⟨⟨xs,v,h3,rfl,hv'⟩,fun x H2 y=>?_⟩
 obtain⟨e,y⟩:=y;subst e;have:=y xs h3
 rw[hv'] at this;cases this;exact⟨Hi1,Ext.refl s2,r.mono s1⟩
theorem zPG{tg a:Expr}{p pos:Pos}(hg:Gl X "reversed")(hm:X.mg "reversed" = none)(ha:PEd X G a f)(hst:starEach [a] X.env=[(false,eval a X.env)]:=by rfl):PId X G tg (.Call (.Name "reversed" p) [a] [] pos) (zJD f):=PI.wk (zLI hg hm (oE ha uR (by rw[hst];rfl)) hst) fun σ H Q q=>by
 obtain⟨ρ,Hi,R,ou⟩:=q;refine zFb R ou fun v d Hi1 H1 e1 R1 r1 o1=>?_
 cases d with
 | lst ds=>
  obtain⟨a,xs,rfl,h1,h2⟩:=r1.lstI;exact⟨a,xs,rfl,cY R1.s h1,o1.here R1.s _ (zFw h1 h2)⟩
 | _=>exact o1.elim
end
section
variable{prog:Program}{w:World}{A:Around}{E:Value->Shared->Prop}{s:Shared}
end
section
variable{X:Cx}{G:Gx}{f:Ev}
end
section
variable{X:Cx}{G:Gx}{it:Fv}{t:Tv}
end
end L3
namespace PySem.W.Fast
def tw5528049998261170872:=0
def tw6667345275592525359:=0
def tw5470283180966049109:=0
def tw11091851052720495001:=0
def tw1707734897368588699:=0
def tw10993856995440818314:=0
def tw5075463862801885537:=0
def tw10037639891075926542:=0
def tw11547369620580406790:=0
def tw3710540308546169574:=0
def tw8982211278907356432:=0
def tw12613174549318269928:=0
def tw10788724985284541882:=0
def tw13320104294651356549:=0
def tw14996877810493769555:=0
def tw9293945848644742967:=0
def tw3210792823951555368:=0
def tw5096067947881850133:=0
def tw10585123163635712601:=0
def tw7012413294354622277:=0
def tw2153780016405631232:=0
def tw7581139666609021475:=0
def tw9612598916112225868:=0
def tw2610110515294606223:=0
def tw13901592772745841022:=0
def tw16613869593421882600:=0
def tw6732994467495734405:=0
def tw12972224013777846333:=0
def tw784035254584029174:=0
def tw8074431805580121615:=0
def tw18427492834893291952:=0
def tw9929763756248506735:=0
def tw12638830029887759857:=0
def tw12831996514935024216:=0
def tw14709999824836135186:=0
def tw13970552178113935478:=0
def tw6028590388307298234:=0
def tw15973536990002768573:=0
def tw14743121798671164879:=0
def tw14379277252525349740:=0
def tw15944212426544103437:=0
def tw11912867035948514604:=0
def tw7000248011985568634:=0
def tw5634597383970698333:=0
def tw4918574776052512336:=0
def tw16076515937541608221:=0
def tw6614926482872022751:=0
def tw10361250701824699103:=0
def tw5750653264665935826:=0
def tw4897412676952863932:=0
def tw4176104458287856684:=0
def tw8184988709839463166:=0
def tw11703178615348003394:=0
def tw17596530642447821946:=0
def tw8766919563722121543:=0
def tw12462309778078062244:=0
def tw4049285991131138127:=0
def tw2766704885655501430:=0
def tw8972047020651317754:=0
def tw14280376128802760997:=0
def tw632302675280457661:=0
def tw699859082769776310:=0
def tw7703473758829952934:=0
def tw6031179207103374545:=0
def tw2098805261890629585:=0
def tw5390013171399010993:=0
def tw17455473601472723755:=0
def tw9902309589515149934:=0
def tw10828470834972931796:=0
def tw3993068056682927487:=0
def tw12366733082655187124:=0
def tw11176790591624698051:=0
def tw9249832688080487173:=0
def tw539139768435539432:=0
def tw5628710389215394872:=0
def tw8403774987096580840:=0
def tw10736552230125663318:=0
def tw5309409244980166502:=0
def tw2486399146238642278:=0
def tw16594353821120731410:=0
def tw3855486809580361778:=0
def tw18221539254893436502:=0
def tw12303206757825122498:=0
def tw11767563725397769706:=0
def tw17343520756406995946:=0
def tw13279399778214573780:=0
def tw10332154220383834390:=0
def tw16559454687634515331:=0
def tw17486648953092011764:=0
def tw11312799373713042795:=0
def tw7504386966123548959:=0
def tw10767018340540773889:=0
def tw7406084178827019535:=0
def tw7923700198821505006:=0
def tw1067196611260897465:=0
def tw10524309629166257541:=0
def tw809729723581288439:=0
def tw3861624620390401139:=0
def tw11946955968498210242:=0
def tw17638492725906113328:=0
def tw7761101081915514626:=0
def tw16108609865691689602:=0
def tw12719603352867193501:=0
def tw1605254302240793773:=0
def tw3457763455794593341:=0
def tw10645431439543729704:=0
def tw13632440135841391158:=0
def tw14480354465774868632:=0
def tw10597951155190958185:=0
def tw2238945984936814798:=0
def tw15267395444664297489:=0
def tw2327252764019723932:=0
def tw15903326623735534813:=0
def tw12012494589735727985:=0
def tw9742694653951327268:=0
def tw3403979330737541064:=0
def tw8854150806904233961:=0
def tw13889956375828591440:=0
def tw8392822059339548968:=0
def tw1321452786493297480:=0
def tw2676155569144565669:=0
def tw18285660517042130852:=0
def tw15468507876891334040:=0
def tw8549172081926593746:=0
def tw174461087954927090:=0
def tw9429021599457092891:=0
def tw9812327578165681755:=0
def tw2158533321808422096:=0
def tw3658495125087986144:=0
def tw225021835448179557:=0
def tw15010692149435786532:=0
def tw1245963001360633101:=0
def tw1103946862589627072:=0
def tw6208884558674422395:=0
def tw11054847603648376418:=0
def tw5802042972865630575:=0
def tw6045904179521785301:=0
def tw16530771799232633353:=0
def tw10252440070025793112:=0
def tw3243310789956424475:=0
def tw8015643351675194045:=0
def tw10612386173243249241:=0
def tw15244894838687017430:=0
def tw18050183870427846161:=0
def tw4412562566681982120:=0
def tw6635660860449257689:=0
def tw9017955429324717625:=0
def tw2813593634119383368:=0
def tw17124196766028849376:=0
def tw9837746671940916805:=0
def tw7809191720449659099:=0
def tw13046921931379888778:=0
def tw881614360329954095:=0
def tw8018059289754105158:=0
def tw15177844691227925653:=0
def tw15153980018446620864:=0
def tw13127981833119065355:=0
def tw9723549620571557969:=0
def tw313538913234652303:=0
def tw10934282731621541789:=0
def tw1971065620261564765:=0
def tw5918430352086900146:=0
def tw7922525133989671627:=0
def tw12418676725419159346:=0
def tw9155030105830241053:=0
def tw11463365705529047630:=0
def tw1672570871173956311:=0
def tw8097796031971979229:=0
def tw4591714212385101340:=0
def tw5050872206662066933:=0
def tw1461879682280385706:=0
def tw5428354375818903434:=0
def tw5788424713424659708:=0
def tw7271460380496509709:=0
def tw12171300227982672683:=0
def tw2097852527460911500:=0
def tw11630926556203865445:=0
def tw14266347186169530982:=0
def tw1024226688863928246:=0
def tw12409310290851062783:=0
def tw14062221102299581081:=0
def tw15179244418901201945:=0
def tw4228689312653872346:=0
def tw8947659353613868205:=0
def tw4612908983219953889:=0
def tw5764004852384956437:=0
def tw8139743086744135453:=0
def tw7576383250863394230:=0
def tw11882116615923038169:=0
def tw1736469603231935682:=0
def tw9473085806707851041:=0
def tw6553558793064212775:=0
def tw11429489132074462665:=0
def tw16996901032469417307:=0
def tw13545086946281605562:=0
def tw9840536025941214635:=0
def tw3267048428845155283:=0
def tw6867748607055415118:=0
def tw13400309726129288171:=0
def tw15585137084664932285:=0
def tw10050520657066649849:=0
def tw13530157721234356438:=0
def tw17345126123337813506:=0
def tw13665021266086996227:=0
def tw15555334597382925204:=0
def tw11160966843183120682:=0
def tw399453793029438808:=0
def tw3216921410329852379:=0
def tw11398601819992476677:=0
def tw2744324754451741404:=0
def tw6973154417962247367:=0
def tw14897989088901877859:=0
def tw8405309763638020466:=0
def tw9907873847143957434:=0
def tw9737669019954199584:=0
def tw13840044079804493555:=0
def tw12629352383874156141:=0
def tw7480531949641416427:=0
def tw18393794084068292401:=0
def tw1955208951781177108:=0
def tw7839152619934838311:=0
def tw12655808753042293047:=0
def tw5923335779211825861:=0
def tw17492009596886598392:=0
def tw3259076551103042557:=0
def tw8082396527895421767:=0
def tw5022590637298215368:=0
def tw8169980382869864862:=0
def tw7773663679594029315:=0
def tw16114111397770222633:=0
def tw5502553210077824609:=0
def tw5869817493774003188:=0
def tw16844333543836877868:=0
def tw3280151874073707068:=0
def tw12665106162789020359:=0
def tw18303531730384356957:=0
def tw7015173647711857301:=0
def tw11933189468340326423:=0
def tw10709692729321570355:=0
def tw14028788971299944428:=0
def tw16028025190733202736:=0
def tw10046487451946913154:=0
def tw13744031721770934001:=0
def tw12480368418620631663:=0
def tw17989398099585239716:=0
def tw7212100805778783595:=0
def tw15016831577545900106:=0
def tw15319898898968590754:=0
def tw9822179935761737992:=0
def tw9794805651451590648:=0
def tw6849621753582212959:=0
def tw280753103122215441:=0
def tw13455619228635363388:=0
def tw3925405121548641302:=0
def tw10989936623267509435:=0
def tw6787338706217186251:=0
def tw6494789639852684271:=0
def tw5855271386068403692:=0
def tw7939422785787596101:=0
def tw1484425599604294131:=0
def tw12740556229427680390:=0
def tw3356509382465843608:=0
def tw17050728679116740683:=0
def tw9908598774760494108:=0
def tw13498186355903298544:=0
def tw10894879773993381862:=0
def tw16702464656784702540:=0
def tw17908733953921323658:=0
def tw14646426885945739211:=0
def tw15906408297205579103:=0
def tw1711683637478430977:=0
def tw2543429156293719501:=0
def tw8824155581014370597:=0
def tw3758510092534132804:=0
def tw14041857331679433199:=0
def tw17984444303294910526:=0
def tw10743981142114334507:=0
def tw15451515124453951:=0
def tw8213569909580285798:=0
def tw12048572283708725487:=0
def tw6777108756358616902:=0
def tw16433292440976748965:=0
def tw11490328759765157308:=0
def tw3238893123212804972:=0
def tw2844520567707101406:=0
def tw110535722779778301:=0
def tw7915027219235690423:=0
def tw16462599171009295235:=0
def tw18421194823525368437:=0
def tw10394784217050506319:=0
def tw12927071950070618334:=0
def tw10706735438630687199:=0
def tw11567524095774438072:=0
def tw5270180219554108584:=0
def tw2684440576243783496:=0
def tw14236527773147743770:=0
def tw480028567400293041:=0
def tw7582993661726651051:=0
def tw16544183090491344000:=0
def tw5961495846162136827:=0
def tw2959662577074807192:=0
def tw6837961039569199074:=0
def tw11535728565077636483:=0
def tw7682433934163791160:=0
def tw17728850652652947912:=0
def tw13927436923834348037:=0
def tw7380749678112441066:=0
def tw11238877626664103496:=0
def tw3352332746430338255:=0
def tw15793870274314692998:=0
def tw15764597054839020071:=0
def tw1928883479701322472:=0
def tw11524221201941460417:=0
def tw8981782936677670005:=0
def tw13138484673096993037:=0
def tw4388665618366979364:=0
def tw9690312027528374552:=0
def tw9468201824753206318:=0
def tw4005988662933106170:=0
def tw10055881430046614350:=0
def tw16252911458184976441:=0
def tw14741992610826120324:=0
def tw11535779305461566056:=0
def tw12911030159501353966:=0
def tw14458282943389385722:=0
def tw1552436478038075204:=0
def tw6447228388940734299:=0
def tw12800465545856308353:=0
def tw15659973447911886601:=0
def tw10713195856142637128:=0
def tw5398069760803558475:=0
def tw4954474070055376482:=0
def tw16631850391066540062:=0
def tw16768137546998913826:=0
def tw18038396489353518051:=0
def tw14880821709818696710:=0
def tw11515377140241401894:=0
def tw8637583925660592475:=0
def tw4473626177202764162:=0
def tw3249295301792511275:=0
def tw797619377003504749:=0
def tw14964613159913438766:=0
def tw16592367837652390044:=0
def tw827785621080900656:=0
def tw696104708298779598:=0
def tw11016667013936850679:=0
def tw4978901603967129358:=0
def tw5873334746662128300:=0
def tw6424160177525920096:=0
def tw8045011044852667798:=0
def tw11121974540914906494:=0
def tw14878035576489432606:=0
def tw2451552303487540171:=0
def tw9320619611727933180:=0
def tw4190031538514470016:=0
def tw12429409368210175217:=0
def tw6218195531381443788:=0
def tw17842561244254877048:=0
def tw378024786655226449:=0
def tw11978469459378300040:=0
def tw10949868417406017161:=0
def tw6179191513435315847:=0
def tw1655272267518982699:=0
def tw3283757755624794063:=0
def tw12200395955447181641:=0
def tw6129594791084882150:=0
def tw6729397923060676957:=0
def tw12237698016721317954:=0
def tw4205498338008974504:=0
def tw15368896101473697605:=0
def tw9029182662338113841:=0
def tw3149872998727365315:=0
def tw13748453880934161339:=0
def tw8535323637510468389:=0
def tw807771423307523759:=0
def tw13142817608478625166:=0
def tw4781751908948025354:=0
def tw5947467822229850894:=0
def tw17876979425431295962:=0
def tw11658174933772504070:=0
def tw17421471476948484842:=0
def tw9984445406656357483:=0
def tw3122089459934375403:=0
def tw5208755654812297118:=0
def tw2784821983656368101:=0
def tw6985428714607762824:=0
def tw13247309674489739133:=0
def tw7431520093108790868:=0
def tw7848402158901139945:=0
def tw11604945861351134768:=0
def tw879487797235179885:=0
def tw18196079809846635668:=0
def tw1572891914270538148:=0
def tw15534297159446588666:=0
def tw6118361809437108074:=0
def tw13349989738075674585:=0
def tw15150859375487681521:=0
def tw18037826856507555559:=0
def tw3544481444175354116:=0
def tw15480405772710194807:=0
def tw3166680187069164479:=0
def tw5504979479709240317:=0
def tw4999952737669766484:=0
def tw13067538246583715312:=0
def tw5265646652001257908:=0
def tw4744217531442239059:=0
def tw7815056487632675721:=0
def tw17503732795348239017:=0
def tw13627272418357666825:=0
def tw7300024092509388285:=0
def tw10474101679354896941:=0
def tw14770759303063735045:=0
def tw13027776533683518438:=0
def tw2142086146919904571:=0
def tw14049135316081850940:=0
def tw9111093997073814525:=0
def tw18004794768651865293:=0
def tw17774082041409300442:=0
def tw3509819945265074228:=0
def tw11738437589257759805:=0
def tw14830767219923066172:=0
def tw2000467572278954717:=0
def tw10503009729441247660:=0
def tw14230831209948696983:=0
def tw6267544427822367706:=0
def tw14760589639349947950:=0
def tw10066152632583117758:=0
def tw17322866147276656639:=0
def tw6263747234789553992:=0
def tw17197118851012268559:=0
def tw9368999325970198273:=0
def tw6131453848484119387:=0
def tw6046828678590359571:=0
def tw9636480435312154866:=0
def tw3442763733648559850:=0
def tw8591516952256244166:=0
def tw16374735890545572470:=0
def tw12489701855638852534:=0
def tw18013511868583537980:=0
def tw2233053309871926125:=0
def tw12998695316342443:=0
def tw8290193485269154028:=0
def tw6240452364687467612:=0
def tw2238691564078158064:=0
def tw14231990089446444277:=0
def tw9008464597006154696:=0
def tw15903412422015257104:=0
def tw3657179821029331259:=0
def tw1399747055452015347:=0
def tw16845988528569798715:=0
def tw3148009360666004992:=0
def tw2567067487221017984:=0
def tw3409966849151718920:=0
def tw2757691412201715747:=0
def tw2763402224259729315:=0
def tw8542033146678422308:=0
def tw111552547120302915:=0
def tw15479910160213427908:=0
def tw13190484458825785907:=0
def tw8468669808164182994:=0
def tw844980505004651744:=0
def tw4136878187463586026:=0
def tw5318818844259391992:=0
def tw5396664628704452523:=0
def tw11647528476424135961:=0
def tw3229505183070772975:=0
def tw9748354330205244533:=0
def tw17547457331412020533:=0
def tw3212241599317304423:=0
def tw6890784556770930314:=0
def tw6449559916861588067:=0
def tw9253505028176054180:=0
def tw2233195657891682364:=0
def tw15534062327115353259:=0
def tw855766834131511510:=0
def tw847716404286151575:=0
def tw10557036732790283867:=0
def tw11078812859170126170:=0
def tw7367063174804281880:=0
def tw4439977494288917430:=0
def tw16706754226880159418:=0
def tw4479452200479910392:=0
def tw15491340120559979286:=0
def tw12052421089479090280:=0
def tw8949665080023980529:=0
def tw13371398443518792211:=0
def tw16279983358993228657:=0
def tw15447177799221395765:=0
def tw15020944659346797361:=0
def tw14557865869647886530:=0
def tw15680817079937346811:=0
def tw18442352339637342058:=0
def tw16237110981070236245:=0
def tw16924684669483519742:=0
def tw17182999153287613335:=0
def tw5788321612769249765:=0
def tw18247074653400825558:=0
def tw5825953078480773991:=0
def tw5069328782110520651:=0
def tw8341978173529991111:=0
def tw14537169809696066437:=0
def tw16034565652938009708:=0
def tw13846528829851972148:=0
def tw10933041268896640640:=0
def tw10655129868120600931:=0
def tw15258897903639006164:=0
def tw17682784063197847125:=0
def tw17538609329047118321:=0
def tw13467151730148629566:=0
def tw13951920790412944819:=0
def tw9440684564482697628:=0
def tw5859745693222413407:=0
def tw15103714769291327339:=0
def tw3993552815920151405:=0
def tw4926274977543570526:=0
def tw9202039781814392644:=0
def tw14828268434183183177:=0
def tw8024558352768212379:=0
def tw9276278283721131064:=0
def tw15397171193365528495:=0
def tw10391373468379490567:=0
def tw18052108066680591372:=0
def tw5034875139977376231:=0
def tw4424647662130831443:=0
def tw2962238508811490579:=0
def tw15627261805063127686:=0
def tw14299719700954127104:=0
def tw6620423247465360814:=0
def tw7020546222241123088:=0
def tw7363285887477196284:=0
def tw516026994091184798:=0
def tw7092728780600573553:=0
def tw12107363270771688193:=0
def tw4776189405924705023:=0
def tw927289519089855159:=0
def tw6625649938107208939:=0
def tw14136441144625434986:=0
def tw5003149551217975043:=0
def tw1923581966236939317:=0
def tw7027960843961546710:=0
end PySem.W.Fast
namespace Lw
open L3 PySem
def tbT:List Str:=[]
def zSe:List (Str×List Str):=[]
def eU:D:=(.tup [(.int 0),(.int 1)])
def aX:List (Str×Str):=[("row", "back"),("back", "row"),("even", "lack"),("lack", "even"),("part", "part"),("half", "half")]
def d_WEIGHTED:D:=(.tup [(.str "even"),(.str "lack")])
def d_HALF:D:=(.tup [(.int 1),(.int 2)])
def d_BOAT:D:=(.str "boat")
def d_ACROSS:D:=(.int 0)
def d_UP:D:=(.int 1)
abbrev pP:Sv:=(cX 1 (aH 2))
abbrev pU:Sv:=(bD (cX 0 (aH 1)) pP)
abbrev qA:Sv:=(bD (cX 2 (eOp vQ (aH 0) (aH 1))) pU)
abbrev pK:Sv:=(iA (aH 0))
abbrev oU:Sv:=(bD (eQ (dY (eOp oNe (aH 1) (eC (.int 0)))) qA) pK)
abbrev pT:Sv:=(bD (cX 1 (eB zLb (aE (aH 1) aNil))) oU)
def dM:Mir:=fn 2 3 (bD (cX 0 (eB zLb (aE (aH 0) aNil))) pT)
def bN:Mir:=fn 1 1 (iA (sW (aE (aH 0) (aE (eC (.int 1)) aNil))))
def fN:Mir:=fn 2 2 (iA (eOp oLt (eOp qG (eOp oIx (aH 0) (eC (.int 0))) (eOp oIx (aH 1) (eC (.int 1)))) (eOp qG (eOp oIx (aH 1) (eC (.int 0))) (eOp oIx (aH 0) (eC (.int 1))))))
abbrev xL:Sv:=(cX 1 (eOp qG (aH 1) (eOp oIx (aH 2) (eC (.int 1)))))
abbrev zBh:Sv:=(cX 1 (eC (.int 1)))
abbrev tP:Sv:=(zG (qF (aH 0)) (gName 2) xL)
def jF:List D->Res (List Int):=yU zBh tP
def eD:Mir:=fn 1 1 (sIf (dY (eUn (qS aX) (aH 0))) (jA "BadWay" (aE (eC (.str "no such way")) aNil)) sNext)
abbrev rD:Sv:=(sIf (dY (eOp oLt (aH 1) (eC (.int 0)))) (jA "BadClaim" (aE (eC (.str "a claim is below nought")) aNil)) sNext)
abbrev qO:Sv:=(zG (qF (aH 0)) (gName 1) rD)
def eE:Mir:=fn 1 2 (bD (sIf (dY (eOp oEq (eB nQ (aE (aH 0) aNil)) (eC (.int 0)))) (jA "BadClaim" (aE (eC (.str "there is no claim")) aNil)) sNext) qO)
abbrev oR:Sv:=(sIf (zKS (dY (eOp oLt (aH 4) (eC (.int 1)))) (dY (eOp oGt (aH 4) (eOp zLm (eC (.int 10)) (eC (.int 6)))))) (jA "BadWeights" (aE (eC (.str "a weight is not from 1 to 10 ** 6")) aNil)) sNext)
abbrev oP:Sv:=(zG (qF (aH 1)) (gName 4) oR)
abbrev pX:Sv:=(bD (sIf (dY (eOp oNe (eB nQ (aE (aH 1) aNil)) (aH 3))) (jA "BadWeights" (aE (eC (.str "more or fewer weights than are due")) aNil)) sNext) oP)
def bU:Mir:=fn 3 5 (bD (cX 3 (eIf (dY (eOp oIn (aH 0) (eC d_WEIGHTED))) (aH 2) (eC (.int 0)))) pX)
def cD:Mir:=fn 1 1 (iA (eOp oEq (eOp oIx (aH 0) (eC (.int 0))) (eC d_BOAT)))
def iK:Mir:=fn 1 1 (iA (eOp oIx (aH 0) (eC (.int 0))))
def cP:Mir:=fn 1 1 (iA (eOp oIx (aH 0) (eC (.int 1))))
def kO:Mir:=fn 1 1 (iA (eOp oIx (eOp oIx (aH 0) (eUn zAQ (eC (.int 1)))) (eC d_ACROSS)))
def kQ:Mir:=fn 1 1 (iA (eOp oIx (eOp oIx (aH 0) (eUn zAQ (eC (.int 1)))) (eC d_UP)))
def nL:Mir:=fn 1 1 (hJ (jE (qF (aH 0)) jC (eOp oIx (aH 1) (eC d_ACROSS))))
abbrev uH:Sv:=(iA (eC (.int 0)))
def fV:Mir:=fn 2 2 (bD (sIf (dY (eOp oLt (aH 1) (eB nQ (aE (aH 0) aNil)))) (iA (eOp oIx (aH 0) (aH 1))) sNext) uH)
abbrev zBk:Sv:=(cX 3 (aH 4))
abbrev zAM:Sv:=(bD (cX 2 (aH 3)) zBk)
abbrev zBj:Sv:=(bD (cX 4 (eOp vQ (aH 2) (aH 3))) zAM)
abbrev zBa:Sv:=(iA (sW (aE (eOp rY (aH 0) (aH 2)) (aE (eOp rY (aH 1) (aH 2)) aNil))))
abbrev rS:Sv:=(bD (sIf (dY (eOp oLt (aH 1) (eC (.int 0)))) (cX 2 (eOp zCt (eC (.int 0)) (aH 2))) sNext) zBa)
abbrev zCq:Sv:=(bD (eQ (dY (eOp oGt (aH 3) (eC (.int 0)))) zBj) rS)
abbrev zBB:Sv:=(bD (cX 3 (eB zLb (aE (aH 1) aNil))) zCq)
def eH:Mir:=fn 2 5 (bD (cX 2 (eB zLb (aE (aH 0) aNil))) zBB)
def fH:Mir:=fn 2 2 (iA (eOp oLt (eOp qG (eOp oIx (aH 0) (eC (.int 0))) (eOp oIx (aH 1) (eC (.int 1)))) (eOp qG (eOp oIx (aH 1) (eC (.int 0))) (eOp oIx (aH 0) (eC (.int 1))))))
def iU:Mir:=fn 2 2 (iA (eOp vQ (eOp sV (eOp sV (eOp qG (aH 0) (eC (.int 48271))) (eOp qG (eC (.int 7919)) (aH 1))) (eC (.int 23))) (eC (.int 2147483647))))
abbrev zBo:Sv:=(cX 4 (eB zLk (aE (eF (jE (zCk (aE (eB nQ (aE (aH 0) aNil)) aNil)) jC (eOp sV (eC (.int 1)) (eOp vQ (eOp rY (eOp vQ (eOp zLm (eOp sV (eOp sV (aH 1) (eOp qG (eC (.int 40692)) (aH 6))) (eC (.int 1))) (eC (.int 2))) (eC (.int 998244353))) (eC (.int 7))) (aH 5))))) aNil)))
abbrev zBx:Sv:=(iA (sW (aE (aH 3) (aE (aH 4) (aE (eB zLk (aE (aH 0) aNil)) aNil)))))
abbrev zCs:Sv:=(bD (sIf (dY (eOp oIn (aH 3) (sW (aE (eC (.str "even")) (aE (eC (.str "lack")) aNil))))) (bD (cX 5 (eOp oIx (eF (lQ (aE (eC (.int 5)) (aE (eOp zLm (eC (.int 10)) (eC (.int 6))) aNil)))) (eOp rY (eOp vQ (eOp rY (aH 2) (eC (.int 3))) (eC (.int 3))) (eC (.int 2))))) zBo) sNext) zBx)
abbrev zAX:Sv:=(bD (cX 4 (sW aNil)) zCs)
def eI:Mir:=fn 3 6 (bD (cX 3 (eOp oIx (eF (lQ (aE (eC (.str "row")) (aE (eC (.str "back")) (aE (eC (.str "even")) (aE (eC (.str "lack")) (aE (eC (.str "part")) (aE (eC (.str "half")) aNil)))))))) (eOp vQ (eOp rY (aH 1) (eC (.int 7))) (eC (.int 6))))) zAX)
abbrev zKg:Sv:=(iA (sW (aE (eOp rY (aH 0) (aH 2)) (aE (eOp rY (aH 1) (aH 2)) aNil))))
abbrev zJZ:Sv:=(bD (sIf (dY (eOp oLt (aH 1) (eC (.int 0)))) (cX 2 (eUn zAQ (aH 2))) sNext) zKg)
abbrev zJC:Sv:=(bD (cX 2 (aP dM (aE (aH 0) (aE (aH 1) aNil)))) zJZ)
def iT:Mir:=fn 2 3 (bD (sIf (dY (eOp oEq (aH 1) (eC (.int 0)))) (jA "NoFraction" (aE (eC (.str "the bottom is nought")) aNil)) sNext) zJC)
def lB:Mir:=fn 2 2 (iA (eIf (dY (aP fN (aE (aH 0) (aE (aH 1) aNil)))) (aH 0) (aH 1)))
def dZ:Mir:=fn 2 2 (iA (eOr (aP fN (aE (aH 0) (aE (eC eU) aNil))) (aP fN (aE (aH 1) (aE (aH 0) aNil)))))
abbrev zFr:Sv:=(rC (aP bU (aE (aH 0) (aE (aH 1) (aE (eB nQ (aE (aH 2) aNil)) aNil)))))
abbrev zFp:Sv:=(bD (rC (aP eE (aE (aH 2) aNil))) zFr)
def kT:Mir:=fn 3 3 (bD (rC (aP eD (aE (aH 0) aNil))) zFp)
abbrev sO:Sv:=(iA (eUn (tU aX) (aH 0)))
def dQ:Mir:=fn 1 1 (bD (rC (aP eD (aE (aH 0) aNil))) sO)
def cU:Mir:=fn 1 1 (iA (eIf (dY (aP cD (aE (aH 0) aNil))) (sW aNil) (eOp oIx (aH 0) (eC (.int 2)))))
abbrev vK:Sv:=(sIf (dY (aP fN (aE (eOp oIx (aH 3) (eC d_UP)) (aE (eOp oIx (aH 2) (eC d_UP)) aNil)))) (jA "BadLine" (aE (eC (.str "a y is less than the one ahead")) aNil)) sNext)
abbrev xD:Sv:=(bD (sIf (zKs (dY (aP fN (aE (eOp oIx (aH 2) (eC d_ACROSS)) (aE (eOp oIx (aH 3) (eC d_ACROSS)) aNil))))) (jA "BadLine" (aE (eC (.str "an x is not greater than the one ahead")) aNil)) sNext) vK)
abbrev wH:Sv:=(bD (cX 3 (eOp oIx (aH 0) (aH 1))) xD)
abbrev vX:Sv:=(bD (cX 2 (eOp oIx (aH 0) (eOp zCt (aH 1) (eC (.int 1))))) wH)
abbrev wU:Sv:=(zG (zHH (aE (eC (.int 1)) (aE (eB nQ (aE (aH 0) aNil)) aNil))) (gName 1) vX)
abbrev wF:Sv:=(bD (sIf (dY (eOp oNe (eOp oIx (aH 0) (eC (.int 0))) (sW (aE (eC eU) (aE (eC eU) aNil))))) (jA "BadLine" (aE (eC (.str "the first point is not nought and nought")) aNil)) sNext) wU)
def gZ:Mir:=fn 1 4 (bD (sIf (dY (eOp oEq (eB nQ (aE (aH 0) aNil)) (eC (.int 0)))) (jA "BadLine" (aE (eC (.str "a line has a point")) aNil)) sNext) wF)
abbrev pB:Sv:=(sIf (dY (aP fN (aE (eOp oIx (eOp oIx (aH 0) (aH 5)) (aH 1)) (aE (aH 2) aNil)))) (cX 3 (eOp sV (aH 5) (eC (.int 1)))) (cX 4 (aH 5)))
abbrev qD:Sv:=(bD (cX 5 (eOp rY (eOp sV (aH 3) (aH 4)) (eC (.int 2)))) pB)
abbrev jQ:Sv:=(iA (aH 3))
abbrev qE:Sv:=(bD (eQ (dY (eOp oLt (aH 3) (aH 4))) qD) jQ)
abbrev pH:Sv:=(bD (cX 4 (eOp zCt (eB nQ (aE (aH 0) aNil)) (eC (.int 1)))) qE)
def bT:Mir:=fn 3 6 (bD (cX 3 (eC (.int 0))) pH)
abbrev zFE:Sv:=(zIX 3 xV (eC (.int 1)))
abbrev zFA:Sv:=(bD (zFX 2 (eOp oIx (aH 1) (aH 3))) zFE)
abbrev zFo:Sv:=(zFX 2 (aH 4))
abbrev rG:Sv:=(bD (sIf (yF (dY (eOp oLt (aH 3) (eB nQ (aE (aH 1) aNil)))) (dY (eOp oEq (eOp oIx (aH 1) (aH 3)) (aH 4)))) (zIX 3 xV (eC (.int 1))) sNext) zFo)
abbrev zFl:Sv:=(bD (eQ (yF (dY (eOp oLt (aH 3) (eB nQ (aE (aH 1) aNil)))) (dY (aP fN (aE (eOp oIx (aH 1) (aH 3)) (aE (aH 4) aNil))))) zFA) rG)
abbrev zCT:Sv:=(fT 2)
abbrev zDr:Sv:=(bD (zJA 2 (fSl (aH 1) (oS (aH 3)) oN)) zCT)
abbrev zFP:Sv:=(bD (zG (qF (aH 0)) (gName 4) zFl) zDr)
abbrev zFm:Sv:=(bD (cX 3 (eC (.int 0))) zFP)
def qB:Mir:=fn 2 5 (bD (zBQ 2 (lQ aNil)) zFm)
abbrev wQ:Sv:=(zFX 2 (aP bN (aE (aH 1) aNil)))
abbrev nV:Sv:=(bD (zIX 1 xV (aH 3)) wQ)
abbrev vT:Sv:=(fT 2)
abbrev wB:Sv:=(bD (zG (qF (aH 0)) (gName 3) nV) vT)
abbrev wL:Sv:=(bD (zBQ 2 (lQ (aE (eC eU) aNil))) wB)
def fJ:Mir:=fn 1 4 (bD (cX 1 (eC (.int 0))) wL)
abbrev iX:Sv:=(sIf (tFrzB (dY (aP fN (aE (eOp oIx (aH 1) (eUn zAQ (eC (.int 1)))) (aE (aH 2) aNil))))) (zFX 1 (aH 2)) sNext)
abbrev nY:Sv:=(fT 1)
abbrev oF:Sv:=(bD (zG (qF (aH 0)) (gName 2) iX) nY)
def dA:Mir:=fn 1 3 (bD (zBQ 1 (fSl (aH 0) oN (oS (eC (.int 1))))) oF)
def kE:Mir:=fn 2 2 (iA (aP eH (aE (eOp sV (eOp qG (eOp oIx (aH 0) (eC (.int 0))) (eOp oIx (aH 1) (eC (.int 1)))) (eOp qG (eOp oIx (aH 1) (eC (.int 0))) (eOp oIx (aH 0) (eC (.int 1))))) (aE (eOp qG (eOp oIx (aH 0) (eC (.int 1))) (eOp oIx (aH 1) (eC (.int 1)))) aNil))))
def iR:Mir:=fn 2 2 (iA (aP eH (aE (eOp qG (eOp oIx (aH 0) (eC (.int 0))) (eOp oIx (aH 1) (eC (.int 0)))) (aE (eOp qG (eOp oIx (aH 0) (eC (.int 1))) (eOp oIx (aH 1) (eC (.int 1)))) aNil))))
def lK:Mir:=fn 2 2 (iA (aP iT (aE (eOp sV (eOp qG (eOp oIx (aH 0) (eC (.int 0))) (eOp oIx (aH 1) (eC (.int 1)))) (eOp qG (eOp oIx (aH 1) (eC (.int 0))) (eOp oIx (aH 0) (eC (.int 1))))) (aE (eOp qG (eOp oIx (aH 0) (eC (.int 1))) (eOp oIx (aH 1) (eC (.int 1)))) aNil))))
def cO:Mir:=fn 2 2 (iA (aP iT (aE (eOp zCt (eOp qG (eOp oIx (aH 0) (eC (.int 0))) (eOp oIx (aH 1) (eC (.int 1)))) (eOp qG (eOp oIx (aH 1) (eC (.int 0))) (eOp oIx (aH 0) (eC (.int 1))))) (aE (eOp qG (eOp oIx (aH 0) (eC (.int 1))) (eOp oIx (aH 1) (eC (.int 1)))) aNil))))
def dJ:Mir:=fn 2 2 (iA (aP iT (aE (eOp qG (eOp oIx (aH 0) (eC (.int 0))) (eOp oIx (aH 1) (eC (.int 0)))) (aE (eOp qG (eOp oIx (aH 0) (eC (.int 1))) (eOp oIx (aH 1) (eC (.int 1)))) aNil))))
def pI:Mir:=fn 2 2 (iA (aP iT (aE (eOp qG (eOp oIx (aH 0) (eC (.int 0))) (eOp oIx (aH 1) (eC (.int 1)))) (aE (eOp qG (eOp oIx (aH 0) (eC (.int 1))) (eOp oIx (aH 1) (eC (.int 0)))) aNil))))
def aZ:Mir:=fn 2 2 (sIf (dY (aP dZ (aE (aH 0) (aE (aH 1) aNil)))) (jA "Outside" (aE (eC (.str "below nought, or more than there can be")) aNil)) sNext)
def eG:Mir:=fn 2 2 (hJ (uG (zKV (aE (aH 1) (aE (aH 0) aNil))) (aP iT (aE (aH 2) (aE (aH 3) aNil)))))
abbrev zAg:Sv:=(cX 2 (aP cO (aE (aH 2) (aE (aH 5) aNil))))
abbrev zAi:Sv:=(bD (zFX 3 (aH 5)) zAg)
abbrev oY:Sv:=(bD (cX 5 (aP lB (aE (aH 2) (aE (aP bN (aE (aH 4) aNil)) aNil)))) zAi)
abbrev xY:Sv:=(fT 3)
abbrev zAp:Sv:=(bD (zG (qF (aH 0)) (gName 4) oY) xY)
abbrev yB:Sv:=(bD (zBQ 3 (lQ aNil)) zAp)
def gF:Mir:=fn 2 6 (bD (cX 2 (aH 1)) yB)
abbrev wZ:Sv:=(zIX 4 zCt (eOp oIx (aH 0) (aH 6)))
abbrev vZ:Sv:=(bD (cX 3 (zPW (aP cO (aE (aH 3) (aE (eOp oIx (aH 5) (aH 6)) aNil))))) wZ)
abbrev xA:Sv:=(bD (zPR 5 (aH 6) (aP lB (aE (aH 7) (aE (aP bN (aE (eOp oIx (aH 1) (aH 6)) aNil)) aNil)))) vZ)
abbrev bZ:Sv:=(bD (cX 7 (aP pI (aE (aP dJ (aE (aH 3) (aE (aP bN (aE (eOp oIx (aH 0) (aH 6)) aNil)) aNil))) (aE (aP bN (aE (aH 4) aNil)) aNil)))) xA)
abbrev jW:Sv:=(fT 5)
abbrev nT:Sv:=(zHD (aE (eF (dC eG (aE (aH 0) (aE (aH 1) aNil)))) aNil) jF (gName 6) bZ jW)
abbrev wW:Sv:=(bD (zBQ 5 (zMi (lQ (aE (eC eU) aNil)) (eB nQ (aE (aH 1) aNil)))) nT)
abbrev vY:Sv:=(bD (cX 4 (eB zAS (aE (aH 0) aNil))) wW)
def dF:Mir:=fn 3 8 (bD (cX 3 (aH 2)) vY)
abbrev wM:Sv:=(hJ (jE (qF (aH 0)) jC (aP dJ (aE (aH 3) (aE (aP bN (aE (aH 4) aNil)) aNil)))))
abbrev wT:Sv:=(bD (cX 3 (aP pI (aE (aH 1) (aE (aP bN (aE (aH 2) aNil)) aNil)))) wM)
abbrev wC:Sv:=(bD (sIf (dY (eOp oEq (aH 2) (eC (.int 0)))) (hJ (zMi (lQ (aE (eC eU) aNil)) (eB nQ (aE (aH 0) aNil)))) sNext) wT)
def fI:Mir:=fn 2 4 (bD (cX 2 (eB zAS (aE (aH 0) aNil))) wC)
abbrev wV:Sv:=(iA (eOp oEq (aP dJ (aE (aH 3) (aE (aH 6) aNil))) (aP dJ (aE (aH 4) (aE (aH 5) aNil)))))
abbrev xB:Sv:=(bD (cX 6 (aP cO (aE (eOp oIx (aH 2) (eC d_ACROSS)) (aE (eOp oIx (aH 1) (eC d_ACROSS)) aNil)))) wV)
abbrev wI:Sv:=(bD (cX 5 (aP cO (aE (eOp oIx (aH 1) (eC d_ACROSS)) (aE (eOp oIx (aH 0) (eC d_ACROSS)) aNil)))) xB)
abbrev wY:Sv:=(bD (cX 4 (aP cO (aE (eOp oIx (aH 2) (eC d_UP)) (aE (eOp oIx (aH 1) (eC d_UP)) aNil)))) wI)
def hG:Mir:=fn 3 7 (bD (cX 3 (aP cO (aE (eOp oIx (aH 1) (eC d_UP)) (aE (eOp oIx (aH 0) (eC d_UP)) aNil)))) wY)
abbrev zMb:Sv:=(iA (aP lK (aE (eOp oIx (aH 6) (aH 3)) (aE (aP dJ (aE (aH 7) (aE (aP cO (aE (eOp oIx (aH 5) (aH 3)) (aE (eOp oIx (aH 6) (aH 3)) aNil))) aNil))) aNil))))
abbrev zMv:Sv:=(bD (cX 7 (aP pI (aE (aP cO (aE (aH 2) (aE (eOp oIx (aH 6) (aH 1)) aNil))) (aE (aP cO (aE (eOp oIx (aH 5) (aH 1)) (aE (eOp oIx (aH 6) (aH 1)) aNil))) aNil)))) zMb)
abbrev zNv:Sv:=(bD (cX 6 (eOp oIx (aH 0) (eOp zCt (aH 4) (eC (.int 1))))) zMv)
abbrev zMJ:Sv:=(bD (sIf (dY (eOp oEq (eOp oIx (aH 5) (aH 1)) (aH 2))) (iA (eOp oIx (aH 5) (aH 3))) sNext) zNv)
abbrev zLT:Sv:=(bD (cX 5 (eOp oIx (aH 0) (aH 4))) zMJ)
abbrev zMK:Sv:=(bD (cX 4 (aP bT (aE (aH 0) (aE (aH 1) (aE (aH 2) aNil))))) zLT)
def oT:Mir:=fn 3 8 (bD (cX 3 (eOp zCt (eC (.int 1)) (aH 1))) zMK)
abbrev tX:Sv:=(zIX 3 zCt (eOp oIx (aH 0) (aH 6)))
abbrev uJ:Sv:=(bD (zIX 2 xV (eOp oIx (aH 1) (aH 6))) tX)
abbrev fX:Sv:=(bD (zFX 5 (aP lK (aE (aP bN (aE (aH 2) aNil)) (aE (aP dJ (aE (eOp oIx (aH 4) (aH 6)) (aE (aP bN (aE (aH 3) aNil)) aNil))) aNil)))) uJ)
abbrev mQ:Sv:=(fT 5)
abbrev mD:Sv:=(zHD (aE (aH 4) aNil) jF (gName 6) fX mQ)
abbrev tL:Sv:=(bD (zBQ 5 (lQ (aE (eC eU) aNil))) mD)
abbrev uX:Sv:=(bD (cX 4 (eF (dC eG (aE (aH 0) (aE (aH 1) aNil))))) tL)
abbrev uN:Sv:=(bD (cX 3 (eB zAS (aE (aH 0) aNil))) uX)
def dG:Mir:=fn 2 7 (bD (cX 2 (eC (.int 0))) uN)
def gE:Mir:=fn 2 2 (hJ (jE (zJD (aH 0)) jC (aP cO (aE (aH 1) (aE (aH 2) aNil)))))
abbrev vW:Sv:=(hJ (jE (qF (eF (dC dF (aE (aH 2) (aE (aH 0) (aE (aP lK (aE (aH 1) (aE (aH 1) aNil))) aNil)))))) jC (aP dJ (aE (aH 3) (aE (eC d_HALF) aNil)))))
def fF:Mir:=fn 2 3 (bD (cX 2 (eF (zMi (lQ (aE (eC (.int 1)) aNil)) (eB nQ (aE (aH 0) aNil))))) vW)
abbrev uK:Sv:=(zFX 1 (aH 2))
abbrev zCV:Sv:=(bD (sIf (tFrzB (yF (dY (eOp oGt (eB nQ (aE (aH 1) aNil)) (eC (.int 1)))) (dY (aP hG (aE (eOp oIx (aH 1) (eUn zAQ (eC (.int 2)))) (aE (eOp oIx (aH 1) (eUn zAQ (eC (.int 1)))) (aE (aH 2) aNil))))))) (zOe 1) sNext) uK)
abbrev zDy:Sv:=(iA (eB zLk (aE (aH 1) aNil)))
abbrev zDm:Sv:=(bD (zG (qF (aH 0)) (gName 2) zCV) zDy)
abbrev zCQ:Sv:=(bD (zBQ 1 (lQ aNil)) zDm)
def eS:Mir:=fn 1 3 (bD (rC (aP gZ (aE (aH 0) aNil))) zCQ)
abbrev zGZ:Sv:=(iA (aP oT (aE (aH 0) (aE (eC d_ACROSS) (aE (aH 1) aNil)))))
def qX:Mir:=fn 2 2 (bD (rC (aP aZ (aE (aH 1) (aE (aP kO (aE (aH 0) aNil)) aNil)))) zGZ)
abbrev zDH:Sv:=(iA (sW (aE (aH 2) (aE (aH 2) aNil))))
abbrev zDw:Sv:=(bD (sIf (dY (eOp oEq (eOp oIx (aH 3) (eC d_UP)) (aH 1))) (iA (sW (aE (aH 2) (aE (eOp oIx (aH 3) (eC d_ACROSS)) aNil)))) sNext) zDH)
abbrev zDj:Sv:=(bD (cX 3 (eOp oIx (aH 0) (eB zOf (aE (eOp sV (aP bT (aE (aH 0) (aE (eC d_UP) (aE (aH 1) aNil)))) (eC (.int 1))) (aE (eOp zCt (eB nQ (aE (aH 0) aNil)) (eC (.int 1))) aNil))))) zDw)
abbrev zCN:Sv:=(bD (cX 2 (aP oT (aE (aH 0) (aE (eC d_UP) (aE (aH 1) aNil))))) zDj)
def kJ:Mir:=fn 2 4 (bD (rC (aP aZ (aE (aH 1) (aE (aP kQ (aE (aH 0) aNil)) aNil)))) zCN)
abbrev zFj:Sv:=(iA (aP eS (aE (eF (jE (qF (aH 3)) jC (sW (aE (aH 4) (aE (aP qX (aE (aH 0) (aE (aP qX (aE (aH 1) (aE (aH 4) aNil))) aNil))) aNil))))) aNil)))
abbrev zFs:Sv:=(bD (cX 3 (eF (dC qB (aE (eF (dC nL (aE (aH 1) aNil))) (aE (aH 2) aNil))))) zFj)
abbrev zFI:Sv:=(bD (cX 2 (eF (jE (qF (eF (dC nL (aE (aH 0) aNil)))) jC (aP oT (aE (aH 1) (aE (eC d_UP) (aE (aH 4) aNil))))))) zFs)
def gN:Mir:=fn 2 4 (bD (sIf (dY (eOp oNe (aP kO (aE (aH 0) aNil)) (aP kQ (aE (aH 1) aNil)))) (jA "Unlike" (aE (eC (.str "the first line's length is not the second one's height")) aNil)) sNext) zFI)
def lX:Mir:=fn 3 3 (iA (aP eS (aE (eF (uG (zKV (aE (aH 0) (aE (aH 1) aNil))) (sW (aE (aH 3) (aE (eOp oIx (aH 4) (aH 2)) aNil))))) aNil)))
abbrev zBy:Sv:=(iA (aP eS (aE (eF (lQ (aE (aH 1) (aE (sW (aE (aP bN (aE (aH 0) aNil)) (aE (aP bN (aE (aH 0) aNil)) aNil))) aNil)))) aNil)))
abbrev zBD:Sv:=(bD (sIf (dY (eOp oEq (aH 0) (eC (.int 0)))) (iA (aP eS (aE (eF (lQ (aE (aH 1) aNil))) aNil))) sNext) zBy)
def gD:Mir:=fn 1 2 (bD (cX 1 (sW (aE (eC eU) (aE (eC eU) aNil)))) zBD)
abbrev vV(r:Mir):Sv:=(hJ (zMu (aH 4) (eF (dC gE (aE (aH 4) (aE (aH 3) aNil))))))
abbrev wO(r:Mir):Sv:=(hJ (dC gE (aE (eF (dC r (aE (aP dQ (aE (aH 0) aNil)) (aE (aH 1) (aE (aH 2) aNil))))) (aE (aH 3) aNil))))
abbrev zM(r:Mir):Sv:=(bD (sIf (dY (eOp oEq (aH 0) (eC (.str "half")))) (bD (cX 4 (eF (jE (qF (eF (dC dG (aE (eF (zMi (lQ (aE (eC (.int 1)) aNil)) (eB nQ (aE (aH 2) aNil)))) (aE (aH 2) aNil))))) jC (aP dJ (aE (aH 5) (aE (eC d_HALF) aNil)))))) (vV r)) sNext) (wO r))
abbrev yP(r:Mir):Sv:=(bD (sIf (dY (eOp oEq (aH 0) (eC (.str "part")))) (hJ (lQ (aE (eC eU) (aE (aH 3) aNil)))) sNext) (zM r))
abbrev yX(r:Mir):Sv:=(bD (sIf (dY (eOp oEq (aH 0) (eC (.str "even")))) (hJ (dC dG (aE (aH 1) (aE (aH 2) aNil)))) sNext) (yP r))
abbrev yH(r:Mir):Sv:=(bD (sIf (dY (eOp oEq (aH 0) (eC (.str "row")))) (hJ (dC fJ (aE (aH 2) aNil))) sNext) (yX r))
def cB(r:Mir):Mir:=fn 3 5 (bD (cX 3 (aP bN (aE (eB zAS (aE (aH 2) aNil)) aNil))) (yH r))
def bM:Nat->Mir
 | 0=>fn 3 5 sNo
 | n+1=>cB (bM n)
abbrev pZ(r:Mir):Sv:=(hJ (uG (zKV (aE (aH 2) (aE (aH 5) aNil))) (aP cO (aE (aP bN (aE (aH 6) aNil)) (aE (aH 7) aNil)))))
abbrev pQ(r:Mir):Sv:=(bD (cX 5 (eF (dC r (aE (eUn (tU aX) (aH 0)) (aE (aH 1) (aE (aH 2) (aE (aP cO (aE (aH 4) (aE (aH 3) aNil))) aNil))))))) (pZ r))
abbrev rJ(r:Mir):Sv:=(bD (sIf (yF (dY (eOp oEq (aH 0) (eC (.str "half")))) (zKs (dY (aP fN (aE (aH 4) (aE (aP lK (aE (aH 3) (aE (aH 3) aNil))) aNil)))))) (hJ (dC fF (aE (aH 2) (aE (aH 3) aNil)))) sNext) (pQ r))
abbrev rM(r:Mir):Sv:=(bD (sIf (dY (eOp oEq (aH 0) (eC (.str "part")))) (hJ (dC fI (aE (aH 2) (aE (aH 3) aNil)))) sNext) (rJ r))
abbrev qQ(r:Mir):Sv:=(bD (sIf (dY (eOp oEq (aH 0) (eC (.str "even")))) (hJ (dC dF (aE (aH 1) (aE (aH 2) (aE (aH 3) aNil))))) sNext) (rM r))
abbrev qZ(r:Mir):Sv:=(bD (sIf (dY (eOp oEq (aH 0) (eC (.str "row")))) (hJ (dC gF (aE (aH 2) (aE (aH 3) aNil)))) sNext) (qQ r))
def aV(r:Mir):Mir:=fn 4 6 (bD (cX 4 (aP bN (aE (eB zAS (aE (aH 2) aNil)) aNil))) (qZ r))
def aQ:Nat->Mir
 | 0=>fn 4 6 sNo
 | n+1=>aV (aQ n)
abbrev zGv:Sv:=(hJ (dC (aQ 2) (aE (aH 0) (aE (aH 1) (aE (aH 2) (aE (aH 3) aNil))))))
abbrev zHB:Sv:=(bD (rC (aP aZ (aE (aH 3) (aE (aP bN (aE (eB zAS (aE (aH 2) aNil)) aNil)) aNil)))) zGv)
def qP:Mir:=fn 4 4 (bD (rC (aP kT (aE (aH 0) (aE (aH 1) (aE (aH 2) aNil))))) zHB)
abbrev zAq:Sv:=(hJ (jE (zCk (aE (eB nQ (aE (aH 2) aNil)) aNil)) jC (aP lX (aE (aH 3) (aE (aH 4) (aE (aH 5) aNil))))))
abbrev zAE:Sv:=(bD (cX 4 (eF (jE (qF (aH 3)) jC (eF (dC (aQ 2) (aE (aH 0) (aE (aH 1) (aE (aH 2) (aE (aH 5) aNil))))))))) zAq)
abbrev zAy:Sv:=(bD (cX 3 (eF (dC dA (aE (eF (dC (bM 2) (aE (aH 0) (aE (aH 1) (aE (aH 2) aNil))))) aNil)))) zAE)
def gG:Mir:=fn 3 5 (bD (rC (aP kT (aE (aH 0) (aE (aH 1) (aE (aH 2) aNil))))) zAy)
abbrev zBV(r:Mir):Sv:=(iA (eOp sV (eC (.int 1)) (eB zBz (aE (eF (jE (qF (eOp oIx (aH 0) (eC (.int 2)))) jC (aP r (aE (aH 1) aNil)))) aNil))))
def nJ(r:Mir):Mir:=fn 1 1 (bD (sIf (dY (eOp oEq (eOp oIx (aH 0) (eC (.int 0))) (eC (.str "boat")))) (iA (eC (.int 1))) sNext) (zBV r))
def dP:Nat->Mir
 | 0=>fn 1 1 sNo
 | n+1=>nJ (dP n)
abbrev zAe(r:Mir):Sv:=(zJA 1 (dC r (aE (aH 2) aNil)))
abbrev zA(r:Mir):Sv:=(fT 1)
abbrev zAc(r:Mir):Sv:=(bD (zG (qF (eOp oIx (aH 0) (eC (.int 2)))) (gName 2) (zAe r)) (zA r))
abbrev zAl(r:Mir):Sv:=(bD (zBQ 1 (lQ aNil)) (zAc r))
def kK(r:Mir):Mir:=fn 1 3 (bD (sIf (dY (eOp oEq (eOp oIx (aH 0) (eC (.int 0))) (eC (.str "boat")))) (hJ (lQ (aE (eOp oIx (aH 0) (eC (.int 1))) aNil))) sNext) (zAl r))
def gB:Nat->Mir
 | 0=>fn 1 3 sNo
 | n+1=>kK (gB n)
abbrev jY:Sv:=(zFX 3 (sW (aE (eC (.str "boat")) (aE (eOp oIx (eF (lQ (aE (eOp vQ (eOp rY (aH 6) (eC (.int 13))) (eC (.int 13))) (aE (eOp vQ (eOp rY (aH 6) (eC (.int 89))) (eC (.int 4))) (aE (eOp vQ (eOp rY (aH 6) (eC (.int 17))) (eOp zLm (eC (.int 10)) (eC (.int 9)))) aNil))))) (eOp vQ (aH 1) (eC (.int 3)))) aNil))))
abbrev xC:Sv:=(sIf (tFrzB (zKS (yF (dY (eOp oLt (eOp vQ (eOp rY (aH 6) (eC (.int 11))) (eC (.int 3))) (eC (.int 2)))) (dY (eOp oLt (aH 4) (aH 2)))) (dY (eOp oEq (aH 3) (eF (lQ aNil)))))) (bD (cX 4 (eOp sV (aH 4) (eC (.int 1)))) jY) (sIf (tFrzB (dY (eOp oLt (eB zBz (aE (eF (jE (qF (eF (fSl (aH 3) (oS (eUn zAQ (aH 7))) oN))) jC (aP (dP 10) (aE (aH 8) aNil)))) aNil)) (eC (.int 7))))) (zBQ 3 (zNJ (zMu (eF (fSl (aH 3) oN (oS (eUn zAQ (aH 7))))) (eF (lQ (aE (aP eI (aE (eF (fSl (aH 3) (oS (eUn zAQ (aH 7))) oN)) (aE (eOp rY (aH 6) (eC (.int 31))) (aE (aH 1) aNil)))) aNil)))))) sNext))
abbrev wD:Sv:=(bD (cX 7 (eOp sV (eC (.int 1)) (eOp vQ (eOp rY (aH 6) (eC (.int 5))) (eC (.int 4))))) xC)
abbrev nU:Sv:=(bD (cX 6 (aP iU (aE (eOp oIx (aH 0) (aH 5)) (aE (aH 5) aNil)))) wD)
abbrev vD:Sv:=(iA (aP eI (aE (aH 3) (aE (eOp rY (aH 1) (eC (.int 9))) (aE (aH 1) aNil)))))
abbrev vI:Sv:=(bD (sIf (dY (eOp oEq (eB nQ (aE (aH 3) aNil)) (eC (.int 1)))) (iA (eOp oIx (aH 3) (eC (.int 0)))) sNext) vD)
abbrev vH:Sv:=(sFrzAt 3 (bD (sIf (dY (eOp oEq (aH 3) (eF (lQ aNil)))) (iA (sW (aE (eC (.str "boat")) (aE (eOp vQ (aH 1) (eC (.int 7))) aNil)))) sNext) vI))
abbrev wJ:Sv:=(bD (zG (zCk (aE (eB nQ (aE (aH 0) aNil)) aNil)) (gName 5) nU) vH)
abbrev wE:Sv:=(bD (cX 4 (eC (.int 0))) wJ)
def gQ:Mir:=fn 3 8 (bD (zBQ 3 (lQ aNil)) wE)
abbrev yG(r:Mir):Sv:=(zJA 1 (dC r (aE (aH 2) aNil)))
abbrev yM(r:Mir):Sv:=(fT 1)
abbrev zAx(r:Mir):Sv:=(bD (zG (qF (aP cU (aE (aH 0) aNil))) (gName 2) (yG r)) (yM r))
abbrev zX(r:Mir):Sv:=(bD (zBQ 1 (lQ aNil)) (zAx r))
def lA(r:Mir):Mir:=fn 1 3 (bD (sIf (dY (aP cD (aE (aH 0) aNil))) (hJ (lQ (aE (eOp oIx (aH 0) (eC (.int 1))) aNil))) sNext) (zX r))
def fZ:Nat->Mir
 | 0=>fn 1 3 sNo
 | n+1=>lA (fZ n)
def dO:Mir:=fn 1 1 (iA (eB zAS (aE (eF (dC (fZ 10) (aE (aH 0) aNil))) aNil)))
def cS:Mir:=fn 1 1 (hJ (jE (qF (aP cU (aE (aH 0) aNil))) jC (aP dO (aE (aH 1) aNil))))
abbrev sC(r:Mir):Sv:=(zJA 3 (dC r (aE (aH 4) (aE (aH 5) aNil))))
abbrev zCa(r:Mir):Sv:=(fT 3)
abbrev zBm(r:Mir):Sv:=(bD (zG (zKV (aE (aP cU (aE (aH 0) aNil)) (aE (aH 2) aNil))) (zHv (nM (gName 4) (nM (gName 5) zIA))) (sC r)) (zCa r))
abbrev zCl(r:Mir):Sv:=(bD (zBQ 3 (lQ aNil)) (zBm r))
abbrev zBs(r:Mir):Sv:=(bD (cX 2 (eF (dC qP (aE (aP iK (aE (aH 0) aNil)) (aE (aP cP (aE (aH 0) aNil)) (aE (eF (dC cS (aE (aH 0) aNil))) (aE (aH 1) aNil))))))) (zCl r))
def iO(r:Mir):Mir:=fn 2 6 (bD (sIf (dY (aP cD (aE (aH 0) aNil))) (hJ (lQ (aE (aH 1) aNil))) sNext) (zBs r))
def fG:Nat->Mir
 | 0=>fn 2 6 sNo
 | n+1=>iO (fG n)
abbrev sH(r:Mir):Sv:=(zJA 2 (jE (qF (eF (dC r (aE (aH 3) aNil)))) jC (aP gN (aE (aH 5) (aE (aH 4) aNil)))))
abbrev zBl(r:Mir):Sv:=(fT 2)
abbrev zAP(r:Mir):Sv:=(bD (zG (zKV (aE (aP cU (aE (aH 0) aNil)) (aE (aH 1) aNil))) (zHv (nM (gName 3) (nM (gName 4) zIA))) (sH r)) (zBl r))
abbrev zBJ(r:Mir):Sv:=(bD (zBQ 2 (lQ aNil)) (zAP r))
abbrev zCf(r:Mir):Sv:=(bD (cX 1 (eF (dC gG (aE (aP iK (aE (aH 0) aNil)) (aE (aP cP (aE (aH 0) aNil)) (aE (eF (dC cS (aE (aH 0) aNil))) aNil)))))) (zBJ r))
def iN(r:Mir):Mir:=fn 1 5 (bD (sIf (dY (aP cD (aE (aH 0) aNil))) (hJ (lQ (aE (aP gD (aE (aP dO (aE (aH 0) aNil)) aNil)) aNil))) sNext) (zCf r))
def fE:Nat->Mir
 | 0=>fn 1 5 sNo
 | n+1=>iN (fE n)
abbrev zFz:Sv:=(hJ (dC (fG 10) (aE (aH 0) (aE (aH 1) aNil))))
def jR:Mir:=fn 2 2 (bD (rC (aP aZ (aE (aH 1) (aE (aP bN (aE (aP dO (aE (aH 0) aNil)) aNil)) aNil)))) zFz)
abbrev wA:Sv:=(iA (aP kJ (aE (eOp oIx (aH 3) (aH 1)) (aE (aH 2) aNil))))
abbrev vU:Sv:=(bD (sIf (zKS (dY (eOp oLt (aH 1) (eC (.int 0)))) (dY (eOp oGe (aH 1) (eB nQ (aE (aH 3) aNil))))) (jA "NoBoat" (aE (eC (.str "there is no boat of that number")) aNil)) sNext) wA)
def dD:Mir:=fn 3 4 (bD (cX 3 (eF (dC (fE 10) (aE (aH 0) aNil)))) vU)
abbrev zGM:Sv:=(sIf (yF (dY (eOp oEq (eOp oIx (aH 5) (aH 7)) (eC (.int 0)))) (dY (eOp oNe (aP dD (aE (aH 4) (aE (aH 7) (aE (sW (aE (eC (.int 0)) (aE (eC (.int 1)) aNil))) aNil)))) (sW (aE (sW (aE (eC (.int 0)) (aE (eC (.int 1)) aNil))) (aE (sW (aE (aH 6) (aE (eC (.int 1)) aNil))) aNil)))))) (iA (eC (.bl false))) sNext)
abbrev zEm:Sv:=(sIf (dY (eOp oNe (aP dD (aE (aH 4) (aE (aH 9) (aE (eOp oIx (eF (dC jR (aE (aH 4) (aE (aH 14) aNil)))) (aH 9)) aNil)))) (aH 13))) (iA (eC (.bl false))) sNext)
abbrev zJh:Sv:=(sIf (zKS (dY (aP fH (aE (eOp oIx (aH 16) (eC (.int 0))) (aE (eOp oIx (aH 13) (eC (.int 0))) aNil)))) (dY (aP fH (aE (eOp oIx (aH 16) (eC (.int 1))) (aE (eOp oIx (aH 13) (eC (.int 1))) aNil))))) (iA (eC (.bl false))) sNext)
abbrev zJX:Sv:=(bD (cX 16 (aP dD (aE (aH 4) (aE (aH 9) (aE (eOp oIx (eF (dC jR (aE (aH 4) (aE (aH 15) aNil)))) (aH 9)) aNil))))) zJh)
abbrev zJT:Sv:=(bD (cX 15 (aP iR (aE (sW (aE (eC (.int 1)) (aE (eC (.int 2)) aNil))) (aE (aP kE (aE (aH 12) (aE (sW (aE (aH 6) (aE (eC (.int 1)) aNil))) aNil))) aNil)))) zJX)
abbrev zJc:Sv:=(bD (zG (qF (aH 13)) (gName 14) zEm) zJT)
abbrev zKh:Sv:=(bD (sIf (zKS (dY (aP fH (aE (aH 12) (aE (eOp oIx (aH 13) (eC (.int 0))) aNil)))) (dY (aP fH (aE (eOp oIx (aH 13) (eC (.int 1))) (aE (aH 12) aNil))))) (iA (eC (.bl false))) sNext) zJc)
abbrev zJm:Sv:=(bD (cX 13 (aP dD (aE (aH 4) (aE (aH 9) (aE (eOp oIx (eF (dC jR (aE (aH 4) (aE (aH 12) aNil)))) (aH 9)) aNil))))) zKh)
abbrev zJk:Sv:=(bD (cX 12 (aP eH (aE (eOp qG (aH 6) (eOp vQ (eOp rY (aH 10) (eC (.int 401))) (eOp sV (aH 11) (eC (.int 1))))) (aE (aH 11) aNil)))) zJm)
abbrev zJj:Sv:=(bD (cX 11 (eOp sV (eC (.int 1)) (eOp vQ (eOp rY (aH 10) (eC (.int 7))) (eC (.int 50))))) zJk)
abbrev zJQ:Sv:=(bD (cX 10 (aP iU (aE (aH 8) (aE (eC (.int 5)) aNil)))) zJj)
abbrev zEH:Sv:=(bD (cX 9 (eOp vQ (eOp rY (aH 8) (eC (.int 3))) (eB nQ (aE (aH 5) aNil)))) zJQ)
abbrev zEN:Sv:=(iA (eC (.bl true)))
abbrev zEY:Sv:=(bD (zG (qF (eF (zMu (eF (lQ (aE (eC (.int 0)) aNil))) (eF (fSl (aH 0) (oS (eOp sV (aH 3) (eC (.int 1)))) (oS (eOp sV (aH 3) (eOp oIx (eF (lQ (aE (eC (.int 9)) (aE (eC (.int 5)) aNil)))) (aH 2))))))))) (gName 8) zEH) zEN)
abbrev zMG:Sv:=(bD (zG (zCk (aE (eB nQ (aE (aH 5) aNil)) aNil)) (gName 7) zGM) zEY)
abbrev zMx:Sv:=(bD (cX 6 (eB zAS (aE (aH 5) aNil))) zMG)
abbrev zMH:Sv:=(bD (cX 5 (eF (dC (gB 10) (aE (aH 4) aNil)))) zMx)
abbrev zNi:Sv:=(bD (cX 4 (aP gQ (aE (eF (fSl (aH 0) (oS (eC (.int 1))) (oS (eOp sV (aH 3) (eC (.int 1)))))) (aE (aH 1) (aE (eOp oIx (eF (lQ (aE (eC (.int 8)) (aE (eC (.int 12)) aNil)))) (aH 2)) aNil))))) zMH)
abbrev zMM:Sv:=(bD (cX 3 (eOp oIx (eF (lQ (aE (eC (.int 14)) (aE (eC (.int 30)) aNil)))) (aH 2))) zNi)
abbrev zLU:Sv:=(bD (cX 2 (eB zPb (aE (eOp oEq (eOp vQ (eOp rY (aH 1) (eC (.int 7))) (eC (.int 4))) (eC (.int 3))) aNil))) zMM)
def zMz:Mir:=fn 1 17 (bD (cX 1 (aP fV (aE (aH 0) (aE (eC (.int 0)) aNil)))) zLU)
end Lw
namespace Lw
open L3 PySem Fr Fq Ln
theorem c_NOUGHT:eU=dq 0:=rfl
local macro_rules | `(tactic| symm)=>do
 let ids:Array (Lean.TSyntax `term):=(("c_NOUGHT d_WEIGHTED d_HALF d_BOAT d_ACROSS d_UP fn_at iZip_at fComp2_at chO_s oEq_s oNe_s oTabNot_s L3.start sSeq_at seqF_nx seqF_ret sSet_at setF sOwn_at ownF sRet_at retF sRetF_at retFF sRetOwn_at retS sRetN sIf_at ifF_t ifF_f sNext sNo sDrop_at dropF dropG eVar_at varS eC eOp_at opF eUn eCall_at callF rtF eB eTup_at tupF aCons_at consF consG aNil tVal_at blF tNotB_at notF tAndB_at tandF_t tandF_f tOrB_at torF_t torF_f eAnd_at andF_t andF_f eOr_at orF_t orF_f eIf_at eifF_t eifF_f eF_at efF fLst_at fLstF fCall_at fcallF rtFF fList_at fListF_l fListF_t fComp_at fRep_at repF fCat_at catF catG eFrz_at frzF fFrz_at fFrzF oN oS_at oSF fSl_at fSlF fSlG fSlH isNon sApp_at appS appF sExt_at extS extF sAug_at augS augF setG sUnp_at unpF nxF bSum_l bSum_t gTup_at gtF_t gCons_at gNil_at gName sFor_at forF iRevL_at revL_l iSeq_at seqD_l seqD_t iRng1_at iRng2_at sFrz sFrzAt frzAt tFrzB okb erb Rt.d fin oAdd_i oAddI_i oSub_i oMul_i oDiv_i oMod_i oPow_i oEq_i oNe_i oLt_i oLe_i oGt_i oGe_i oIx_tc sPop_at popS dp_mk ty_dp len_dp ix_dp0 ix_dp1 dep_dp noL_dp oEq_dp oNe_dp noLs_dps oNeg_i oNot_b bAbs_i bLen_t bLen_l bMin_i bTup_t bTup_l eIsT_at isTF isT ty_i ty_t ty_l ty_b ty_s ty_n ofO_some atD sRaise_at raiseF Sl.frz noErr dep depS noL noLs Qv Vo Xo Vz QS List.replicate Qm Xd List.getElem?_cons_zero List.getElem?_cons_succ List.set_cons_zero List.set_cons_succ Nat.reduceAdd Nat.reduceSub Nat.reduceLeDiff Nat.reduceEqDiff VS VY Nat.max_self Vd if_true ite_true ite_false if_false VM Bool.not_true Bool.not_false reduceIte ite_self Int.toNat_zero Int.reduceToNat Int.reduceLE Int.reduceLT V3 decide_true decide_false Bool.or_true Bool.or_false Bool.true_or Bool.false_or Bool.and_true Bool.true_and Bool.and_false Bool.false_and String.reduceBEq String.reduceEq beq_self_eq_true ix_dq0 ix_dq1 ty_dq dep_dq noL_dq len_dq eq_dq oEq_dq oNe_dq Qg okDiv_lit okMul_litr okMul_litl okp9 p10 fdiv_pos fmod_pos Int.reduceEq Int.reduceNeg p10ne p10ne2 p10pos2 Int.reduceMul Int.reduceAdd Int.reduceSub Int.reduceDiv Int.reduceMod eqD Nat.reduceLT Nat.reducePow ne_eq not_true_eq_false not_false_eq_true".splitOn " ").map fun s=>⟨Lean.mkIdent s.toName⟩).toArray
 `(tactic| simp only[$[$ids:term],*])
theorem sK(t b:Int):dM [.int t,.int b]=.ok (.v (.int (Int.gcd t b:Int))):=by
 unfold dM;symm
 refine zEX (fun ρ=>∃(x y:Int)(r:Sl),ρ=[.val (.int x),.val (.int y),r]/\0<=x/\0<=y/\Int.gcd x y=Int.gcd t b) (fun ρ=>(slI 1 ρ).toNat)
  (fun r=>(r.bind (zJo (iA (aH 0)))).bind fin=.ok (.v (.int (Int.gcd t b:Int)))) ⟨_,_,_,rfl,by omega,by omega,by simp[Int.gcd]⟩ ?_
 rintro ρ ⟨x,y,r,rfl,hx,hy,hg⟩
 by_cases h:y=0
 ·subst h
  refine .inl ⟨rfl,?_⟩
  have e:x=(Int.gcd t b:Int):=by
   rw[Int.gcd_zero_right] at hg;omega
  rw[<-e];rfl
 ·refine .inr ⟨?_,[.val (.int y),.val (.int (x.fmod y)),.val (.int (x.fmod y))],?_,⟨y,x.fmod y,_,rfl,hy,?_,?_⟩,?_⟩
  ·symm
   rw[decide_eq_false h];rfl
  ·symm
   rw[oMod_i h];symm
  ·rw[yE _ hy];exact QN _ h
  ·rw[yE _ hy];exact(Fq.zDY hx (by omega)).trans hg
  ·have:=QO x (show 0 < y by omega)
   rw[yE _ hy];show(x % y).toNat < y.toNat
   omega
theorem zPB{t b:Int}(hb:b≠0):(dv t b).natAbs<=b.natAbs:=Nat.le_of_dvd (by omega) (Int.natAbs_dvd_natAbs.mpr (zDK t b))
theorem zBA{t b:Int}{n:Nat}(hb:b≠0)(hn:b.natAbs < 2^n)(h:n<=8999):iT [.int t,.int b]=.ok (.v (dq (Rat.divInt t b))):=by
 have hd:lP (dv t b)=true:=sT (zPu hb) (Vp (zPB hb) hn) h;have e0:decide (b=0)=false:=decide_eq_false hb;unfold iT;symm;rw[e0];symm;rw[sK];symm;by_cases c:b < 0
 ·have e:-(Int.gcd t b:Int)=dv t b:=by unfold dv;rw[if_pos c]
  rw[decide_eq_true c];symm;rw[e,oDiv_i hd];symm;rw[oDiv_i hd];symm;rw[xR hb,xN hb];rfl
 ·have e:(Int.gcd t b:Int)=dv t b:=by unfold dv;rw[if_neg c]
  rw[decide_eq_false c];symm;rw[e,oDiv_i hd];symm;rw[oDiv_i hd];symm;rw[xR hb,xN hb];rfl
theorem zQU(t:Int):iT [.int t,.int 0]=.err "NoFraction" := by
 unfold iT;symm
theorem zCj{p q:Rat}{m n:Nat}(hp:Sz m p)(hq:Sz n q)(h:m+n<=8999):lK [dq p,dq q]=.ok (.v (dq (p+q))):=by
 unfold lK;symm;rw[oMul_i (bW hp.1 hq.d (by omega))];symm;rw[oMul_i (bW hq.1 hp.d (by omega))];symm;rw[oMul_i (bW hp.d hq.d (by omega))];symm;rw[zBA (Vj (eM p) (eM q)) (fM hp.d hq.d) h,zIO];symm
theorem eP{p q:Rat}{m n:Nat}(hp:Sz m p)(hq:Sz n q)(h:m+n<=8999):cO [dq p,dq q]=.ok (.v (dq (p - q))):=by
 unfold cO;symm;rw[oMul_i (bW hp.1 hq.d (by omega))];symm;rw[oMul_i (bW hq.1 hp.d (by omega))];symm;rw[oMul_i (bW hp.d hq.d (by omega))];symm;rw[zBA (Vj (eM p) (eM q)) (fM hp.d hq.d) h,zKU];symm
theorem mP{p q:Rat}{m n:Nat}(hp:Sz m p)(hq:Sz n q)(h:m+n<=8999):dJ [dq p,dq q]=.ok (.v (dq (p * q))):=by
 unfold dJ;symm;rw[oMul_i (bW hp.1 hq.1 (by omega))];symm;rw[oMul_i (bW hp.d hq.d (by omega))];symm;rw[zBA (Vj (eM p) (eM q)) (fM hp.d hq.d) h,zHw];symm
theorem zID{p q:Rat}{m n:Nat}(hp:Sz m p)(hq:Sz n q)(h0:q≠0)(h:m+n<=8999):pI [dq p,dq q]=.ok (.v (dq (p / q))):=by
 unfold pI;symm;rw[oMul_i (bW hp.1 hq.d (by omega))];symm;rw[oMul_i (bW hp.d hq.1 (by omega))];symm;rw[zBA (Vj (eM p) (zLd.mpr h0)) (fM hp.d hq.1) h,zGH];symm
theorem jS{p q:Rat}{m n:Nat}(hp:Sz m p)(hq:Sz n q)(h:m+n<=99999):fN [dq p,dq q]=.ok (.v (.bl (decide (p < q)))):=by
 unfold fN;symm;rw[oMul_i (bW hp.1 hq.d (by omega))];symm;rw[oMul_i (bW hq.1 hp.d (by omega))];symm;simp only[lt_iff]
def mn(a b:Rat):Rat:=if a < b then a else b
def ps0(x:Rat):Rat:=if x < 0 then 0 else x
def iV:List Int->Int->Rat->List Rat
 | [],_,_=>[]
 | c::r,a,q=>mn (ps0 (q - (a:Rat))) (c:Rat)::iV r (a+c) q
theorem zBK:∀(cs:List Int)(a:Int)(q:Rat),(iV cs a q).length=cs.length
 | [],_,_=>rfl
 | c::r,a,q=>by simp only[iV,Qm,zBK r]
theorem zMg{q:Rat}{a c:Int}(h:0<=c):ps0 (q - (a:Rat)) - mn (ps0 (q - (a:Rat))) (c:Rat)=ps0 (q - ((a+c:Int):Rat)):=by
 have h':(0:Rat)<=(c:Rat):=by exact_mod_cast h
 rw[QX];unfold ps0 mn;grind
theorem cT{n:Nat}{k:Int}(h:k.natAbs < 2^n)(h0:0 < n):Sz n (k:Rat):=by
 refine⟨h,?_⟩
 show 1 < 2^n
 exact Nat.one_lt_two_pow (by omega)
theorem zOD{n:Nat}{q:Rat}(h:Sz n q)(h0:0 < n):Sz n (ps0 q):=by
 unfold ps0;split
 ·exact cT (k:=0) (Nat.two_pow_pos n) h0
 ·exact h
theorem zLW{n:Nat}{p q:Rat}(h:Sz n p)(h':Sz n q):Sz n (mn p q):=by
 unfold mn;split
 ·exact h
 ·exact h'
theorem bV(k:Int):bN [.int k]=.ok (.v (dq (k:Rat))):=by
 unfold bN;symm;rw[zPC]
theorem zEf{p q:Rat}{m n:Nat}(hp:Sz m p)(hq:Sz n q)(h:m+n<=99999):lB [dq p,dq q]=.ok (.v (dq (mn p q))):=by
 unfold lB;symm;rw[jS hp hq h];symm;unfold mn;by_cases c:p < q
 ·rw[decide_eq_true c,if_pos c]
  symm
 ·rw[decide_eq_false c,if_neg c]
  symm
structure Cl (cs:List Int):Prop where
 nn:∀ c∈cs,0<=c
 up:∀ c∈cs,c < 10^30
 lo:1<=cs.length
 hi:cs.length<=12
theorem zKO:∀ {cs:List Int},(∀ c∈cs,0<=c)->(∀ c∈cs,c < 10^30)->0<=cs.sum/\cs.sum<=cs.length * 10^30
 | [],_,_=>by decide
 | c::r,h,h'=>by
  have ih:=zKO (fun x hx=>h x (Qc _ hx)) fun x hx=>h' x (Qc _ hx)
  have a:=h c Qb;have b:=h' c Qb;rw[QE,Qm];refine⟨by omega,?_⟩
  have:((r.length+1:Nat):Int) * 10^30=(r.length:Int) * 10^30+10^30:=by rw[V4,V5];rfl
  omega
theorem Cl.sum{cs:List Int}(h:Cl cs):0<=cs.sum/\cs.sum < 2^104:=by
 have a:=zKO h.nn h.up;have b:=h.hi;refine⟨a.1,?_⟩
 omega
structure Haul (m:Nat) (q:Rat) (W:Int):Prop where
 nn:0<=q
 up:q<=(W:Rat)
 sz:Sz m q
theorem zER{d:D}{q:Rat}{m:Nat}(hm:m<=3000)(hq:Sz m q):∀(cs:List Int)(a:Int)(acc:List D)(s t:Sl),(∀ c∈cs,0<=c)->(∀ c∈cs,c < 10^30)->0<=a->a+cs.length * 10^30 < 2^110->acc.length+cs.length<=100->
  ∃ l' s' t',gO (gName 4) oY (cs.map D.int) [.val d,.val (dq q),.val (dq (ps0 (q - (a:Rat)))),.own acc,s,t]=.ok (.nx [.val d,.val (dq q),l',.own (acc++(iV cs a q).map dq),s',t'])
 | [],a,acc,s,t,_,_,_,_,_=>⟨.val (dq (ps0 (q - (a:Rat)))),s,t,by rw[Vo,gO];simp[iV]⟩
 | c::r,a,acc,s,t,h1,h2,h3,h4,h5=>by
  have c0:=h1 c Qb;have c1:=h2 c Qb;rw[Qm] at h4 h5;have e4:((r.length+1:Nat):Int) * 10^30=(r.length:Int) * 10^30+10^30:=by rw[V4,V5];rfl
  have r0:0<=(r.length:Int) * 10^30:=Xp (by omega) (by decide)
  have zl:Sz (m+111) (ps0 (q - (a:Rat))):=zOD (hq.sub (cT (n:=110) (by omega) (by decide))) (by omega)
  have zc:Sz (m+111) (c:Rat):=Sz.mono (m:=110) (cT (by omega) (by decide)) (by omega)
  obtain⟨l',s',t',e⟩:=zER hm hq r (a+c) (acc++[dq (mn (ps0 (q - (a:Rat))) (c:Rat))]) (.val (.int c)) (.val (dq (mn (ps0 (q - (a:Rat))) (c:Rat)))) (fun x hx=>h1 x (Qc _ hx)) (fun x hx=>h2 x (Qc _ hx)) (by omega) (by omega) (by rw[Ql,XC];omega)
  refine⟨l',s',t',?_⟩
  rw[Qv,dL (ρ1:=[.val d,.val (dq q),.val (dq (ps0 (q - (a:Rat)))),.own acc,.val (.int c),t]) rfl,e]
  ·rw[iV,Qv,Q9];rfl
  ·symm
   rw[bV];symm;rw[zEf zl zc (by omega)];symm;rw[if_pos (by omega)];symm;rw[eP zl (zLW zl zc) (by omega)];symm;rw[zMg c0]
theorem zDh{d:D}{cs:List Int}{q:Rat}(hd:d=.lst (cs.map D.int)∨d=.tup (cs.map D.int)){m:Nat}(hm:m<=3000)(hc:Cl cs)(hq:Sz m q)(h0:0<=q):gF [d,dq q]=.ok (.f ((iV cs 0 q).map dq)):=by
 have sq:zJO d=.ok (cs.map D.int):=by rcases hd with rfl | rfl<;>rfl
 have:=hc.hi
 obtain⟨l',s',t',e⟩:=zER (d:=d) hm hq cs 0 [] .un .un hc.nn hc.up (by decide) (by omega) (by rw[Xd];omega)
 have z:ps0 (q - ((0:Int):Rat))=q:=by
  unfold ps0;rw[show((0:Int):Rat)=0 from rfl];grind
 rw[z] at e;unfold gF;symm;rw[sq];symm;rw[e];rfl
def zAk(cs:List Int)(q:Rat):List Rat:=cs.map fun c=>Rat.divInt (c * q.num) (max 1 cs.sum * q.den)
theorem zGW{q:Rat}{c W:Int}(h:0 < W):q / (W:Rat) * (c:Rat)=Rat.divInt (c * q.num) (W * q.den):=by
 have hW:(W:Rat)≠0:=by
  intro z;have:W=0:=by exact_mod_cast z
  omega
 rw[<-zGH q (W:Rat)];show Rat.divInt (q.num * ((1:Nat):Int)) (q.den * W) * (c:Rat)=_
 rw[show((1:Nat):Int)=1 from rfl,QY,<-Vi (c:Rat),XJ];show Rat.divInt (q.num * c) (q.den * W * ((1:Nat):Int))=_
 rw[show((1:Nat):Int)=1 from rfl,QY,X5 q.num,X5 (q.den:Int)]
theorem pS:∀ {cs:List Int},(∀ c∈cs,0<=c)->cs.sum=0->∀ c∈cs,c=0
 | [],_,_,c,h=>by cases h
 | d::r,h,e,c,hc=>by
  rw[QE] at e;have h0:=h d Qb
  have hr:0<=r.sum:=by
   have:∀ l:List Int,(∀ c∈l,0<=c)->0<=l.sum:=by
    intro l
    induction l with
    | nil=>intro _;decide
    | cons a l ih=>intro hl;rw[QE];have:=hl a Qb;have:=ih fun x hx=>hl x (Qc _ hx);omega
   exact this r fun x hx=>h x (Qc _ hx)
  rcases Qe.mp hc with rfl | hc
  ·omega
  ·exact pS (fun x hx=>h x (Qc _ hx)) (by omega) c hc
theorem zBg{d:D}{cs:List Int}{q:Rat}(hd:d=.lst (cs.map D.int)∨d=.tup (cs.map D.int)){m:Nat}(hm:m<=3000)(hc:Cl cs)(hq:Sz m q):fI [d,dq q]=.ok (.f ((zAk cs q).map dq)):=by
 have sm:=hc.sum;have hi:=hc.hi;have sq:zJO d=.ok (cs.map D.int):=by rcases hd with rfl | rfl<;>rfl
 have su:zAS [d]=.ok (.int cs.sum):=by rcases hd with rfl | rfl;exact bSum_l;exact bSum_t
 have ln:nQ [d]=.ok (.int cs.length):=by rcases hd with rfl | rfl<;>(symm)
 unfold fI;symm;rw[su];symm;by_cases c0:cs.sum=0
 ·rw[decide_eq_true c0]
  symm;rw[ln];symm;rw[zEg (by omega)];symm
  have e:(zAk cs q).map dq=List.replicate cs.length (dq 0):=by
   unfold zAk;rw[Qw,<-List.map_const'];refine Q5 fun c h=>?_
   have c0:=pS hc.nn c0 c h;subst c0;show dq (Rat.divInt (0 * q.num) _)=dq 0
   rw[Int.zero_mul,XQ]
  rw[e]
 ·rw[decide_eq_false c0]
  symm;have W0:0 < cs.sum:=by omega
  have zW:Sz 110 (cs.sum:Rat):=cT (by omega) (by decide)
  have nW:(cs.sum:Rat)≠0:=by
   intro z;have:cs.sum=0:=by exact_mod_cast z
   omega
  rw[bV];symm;rw[zID hq zW nW (by omega)];symm;rw[sq];symm
  rw[eT (u:=D.int) (g:=fun c=>dq (Rat.divInt (c * q.num) (max 1 cs.sum * q.den))) (by omega) (fun c h=>by
   have c0:=hc.nn c h;have c1:=hc.up c h;symm;rw[bV];symm;rw[mP (hq.div zW nW) (cT (n:=110) (k:=c) (by omega) (by decide)) (by omega)];symm
   rw[zGW W0,Int.max_eq_right (by omega)])]
  symm;unfold zAk;rw[Qw];rfl
def iP(f:Nat->Rat)(l:List Nat):Rat:=(l.map f).sum
theorem bG(f:Nat->Rat)(i:Nat)(l:List Nat):iP f (i::l)=f i+iP f l:=by unfold iP;rw[Qv,QE]
theorem iM(f:Nat->Rat):iP f []=0:=rfl
theorem qL{f g:Nat->Rat}:∀ {l:List Nat},(∀ i∈l,f i<=g i)->iP f l<=iP g l
 | [],_=>Qd
 | i::l,h=>by
  rw[bG,bG];have a:=h i Qb;have b:=qL fun j hj=>h j (Qc _ hj)
  grind
theorem rP{f g:Nat->Rat}:∀ {l:List Nat},(∀ i∈l,f i<=g i)->iP f l=iP g l->∀ i∈l,f i=g i
 | [],_,_,i,hi=>by cases hi
 | j::l,h,e,i,hi=>by
  rw[bG,bG] at e;have a:=h j Qb;have hb:∀ i∈l,f i<=g i:=fun k hk=>h k (Qc _ hk)
  have b:=qL hb;rcases Qe.mp hi with rfl | hi
  ·grind
  ·exact rP hb (by grind) i hi
theorem uE{f:Nat->Rat}{l m:List Nat}(h:l.Perm m):iP f l=iP f m:=by
 induction h with
 | nil=>rfl
 | cons x _ ih=>rw[bG,bG,ih]
 | swap x y l=>rw[bG,bG,bG,bG];grind
 | trans _ _ h1 h2=>rw[h1,h2]
theorem dN{w:Nat->Rat}{t:Rat}:∀ {l:List Nat},iP (fun i=>w i * t) l=t * iP w l
 | []=>by rw[iM,iM];grind
 | i::l=>by rw[bG,bG,dN];grind
theorem eK{f g:Nat->Rat}{l:List Nat}(h:∀ i∈l,f i=g i):iP f l=iP g l:=by unfold iP;rw[Q5 h]
theorem zKa{w:Nat->Rat}:∀ {l:List Nat},(∀ i∈l,0 < w i)->0<=iP w l
 | [],_=>Qd
 | i::l,h=>by
  rw[bG];have a:=h i Qb;have b:=zKa fun j hj=>h j (Qc _ hj)
  grind
def dS(c w:Nat->Rat)(t:Rat)(i:Nat):Rat:=mn (w i * t) (c i)
theorem zQt{a b c d:Rat}(h:a<=c)(h':b<=d):mn a b<=mn c d:=by unfold mn;grind
theorem mH{c w:Nat->Rat}{t u:Rat}{i:Nat}(hw:0 < w i)(h:t<=u):dS c w t i<=dS c w u i:=
 zQt (VE h (Qf hw)) Qd
theorem yA{c w:Nat->Rat}{t u:Rat}{l:List Nat}(hw:∀ i∈l,0 < w i)(h:iP (dS c w t) l=iP (dS c w u) l):∀ i∈l,dS c w t i=dS c w u i:=by
 rcases Q6 (a:=t) (b:=u) with g | g
 ·exact rP (fun i hi=>mH (hw i hi) g) h
 ·exact fun i hi=>(rP (fun i hi=>mH (hw i hi) g) h.symm i hi).symm
theorem zHA{L W w c:Rat}(hW:0 < W)(h:L * w / W < c):mn (L * w / W) c=mn (w * (L / W)) c/\mn (w * (L / W)) c=w * (L / W):=by
 have e:L * w / W=w * (L / W):=by grind
 rw[e] at h ⊢
 exact⟨rfl,if_pos h⟩
theorem zHN{r W w c:Rat}(hW:W≠0)(h:w * r<=c):mn (r * W * w / W) c=w * r:=by
 have e:r * W * w / W=w * r:=by grind
 rw[e];unfold mn;grind
theorem zHn{ci wi cj wj r:Rat}(h1:0 < wi)(h2:0 < wj)(h:ci * wj<=cj * wi)(hr:wi * r<=ci):wj * r<=cj:=by
 have a:wi * r * wj<=ci * wj:=Q3 hr (Qf h2)
 have b:wj * r * wi<=cj * wi:=by
  have:wj * r * wi=wi * r * wj:=by grind
  rw[this];exact Qr a h
 exact VN b h1
theorem zFN{L W w c b:Rat}(hw:0 < w)(h:¬ L * w / W < c)(hW:0 < W)(hb:b * W<=L):∃ b',b<=b'/\c<=w * b'/\b' * (W - w)<=L - c:=by
 have h1:c * W<=L * w:=by
  have h':=QP.mp h;have:=Q3 h' (Qf hW)
  rwa [Q7 (by grind)] at this
 have e1:w * (c / w)=c:=by grind
 have e2:c / w * (W - w)=c * W / w - c:=by grind
 have e3:c * W / w<=L:=by
  have a:c * W / w * w<=L * w:=by rw[Q7 (by grind)];exact h1
  exact VN a hw
 rcases Q6 (a:=b) (b:=c / w) with g | g
 ·exact⟨c / w,g,by rw[e1];exact Qd,by rw[e2];grind⟩
 ·refine⟨b,Qd,?_,?_⟩
  ·have:=VE g (Qf hw)
   rwa [e1] at this
  ·have:=VE g (Qf hw)
   rw[e1] at this;grind
structure Wt (ws cs:List Int):Prop where
 len:ws.length=cs.length
 lo:∀ w∈ws,1<=w
 up:∀ w∈ws,w<=10^6
def cR(cs:List Int)(i:Nat):Rat:=((cs.getD i 0:Int):Rat)
def pC:List (Nat×Rat)->List D->List D
 | [],am=>am
 | p::r,am=>pC r (am.set p.1 (dq p.2))
def wS(ws:List Int)(π:List Nat):Int:=(π.map fun i=>ws.getD i 0).sum
theorem lS(ws:List Int)(i:Nat)(π:List Nat):wS ws (i::π)=ws.getD i 0+wS ws π:=by unfold wS;rw[Qv,QE]
theorem bQ{l:List Int}{i:Nat}(h:i < l.length):l[i]?=some (l.getD i 0):=by rw[Qy,Qn h];rfl
theorem zKY{l:List Int}{i:Nat}(h:i < l.length):oIx (.lst (l.map D.int)) (.int (i:Int))=.ok (.int (l.getD i 0)):=nR (Vf i) (show l[((i:Nat):Int).toNat]?=some (l.getD i 0) from bQ h)
theorem zQN{i:Nat}{k e:Ev}{ρ:Rho}{ds:List D}{d:D}{j:Nat}(h1:e ρ=.ok d)(h2:ρ[i]?=some (.own ds))(h3:k ρ=.ok (.int (j:Int)))(h4:j < ds.length):zPR i k e ρ=.ok (.nx (ρ.set i (.own (ds.set j d)))):=by
 unfold zPR;rw[h1];show(match ρ[i]? with | some (.own ds)=>_ | _=>_)=_
 rw[h2];show(k ρ).bind _=_
 rw[h3];exact if_pos ⟨Vf j,by omega⟩
theorem zOG{ds:List D}{d:D}{i:Nat}(h:i < ds.length):oIx (.lst (ds.set i d)) (.int (i:Int))=.ok d:=by
 have e:=nR (f:=id) (l:=ds.set i d) (i:=(i:Int)) (a:=d) (Vf i) (show(ds.set i d)[i]?=some d from QR h)
 rwa [List.map_id] at e
theorem Wt.at{ws cs:List Int}(h:Wt ws cs){i:Nat}(hi:i < cs.length):1<=ws.getD i 0/\ws.getD i 0<=10^6:=by
 have:=bQ (l:=ws) (i:=i) (by rw[h.len];exact hi)
 exact⟨h.lo _ (Qi this),h.up _ (Qi this)⟩
theorem Wt.sum{ws cs:List Int}(h:Wt ws cs):∀ {π:List Nat},(∀ i∈π,i < cs.length)->(π.length:Int)<=wS ws π/\wS ws π<=π.length * 10^6
 | [],_=>⟨V3 _,V3 _⟩
 | i::π,hi=>by
  have a:=h.at (hi i Qb);have b:=h.sum fun j hj=>hi j (Qc _ hj)
  rw[lS,Qm];omega
def Sq(d:D)(l:List Int):Prop:=d=.lst (l.map D.int)∨d=.tup (l.map D.int)
theorem Sq.ix{d:D}{l:List Int}(h:Sq d l){i:Nat}(hi:i < l.length):oIx d (.int (i:Int))=.ok (.int (l.getD i 0)):=by
 rcases h with rfl | rfl
 ·exact nR (Vf i) (bQ hi)
 ·exact oK (Vf i) (bQ hi)
theorem Sq.sum{d:D}{l:List Int}(h:Sq d l):zAS [d]=.ok (.int l.sum):=by
 rcases h with rfl | rfl
 ·exact bSum_l
 ·exact bSum_t
theorem Sq.len{d:D}{l:List Int}(h:Sq d l):nQ [d]=.ok (.int l.length):=by
 rcases h with rfl | rfl
 ·rw[bLen_l,Qg]
 ·rw[bLen_t,Qg]
theorem Sq.seq{d:D}{l:List Int}(h:Sq d l):zJO d=.ok (l.map D.int):=by
 rcases h with rfl | rfl<;>rfl
theorem Sq.seqo{d:D}{l:List Int}(h:Sq d l):zIY d=some (l.map D.int):=by
 rcases h with rfl | rfl<;>rfl
theorem zIJ{ws cs:List Int}{wd cd:D}(sw:Sq wd ws)(sc:Sq cd cs){qv s7:Sl}{L:Rat}{W:Int}{i:Nat}{am:List D}(hW:Wt ws cs)(hc:∀ c∈cs,0<=c/\c < 10^30){m:Nat}(hm:m<=3000)(hL:Sz (m+250) L)(W0:0 < W)(W1:W<=12 * 10^6)(hi:i < cs.length)(ha:am.length=cs.length){a:Rat}(ea:mn (L * cR ws i / (W:Rat)) (cR cs i)=a):
  bZ [.val wd,.val cd,qv,.val (dq L),.val (.int W),.own am,.val (.int (i:Nat)),s7]=
   .ok (.nx [.val wd,.val cd,qv,.val (dq (L - a)),.val (.int (W - ws.getD i 0)),.own (am.set i (dq a)),.val (.int (i:Nat)),.val (dq (L * cR ws i / (W:Rat)))]):=by
 have hiw:i < ws.length:=by rw[hW.len];exact hi
 obtain⟨w1,w2⟩:=hW.at hi;obtain⟨c1,c2⟩:=hc _ (Qi (bQ hi));have zW:Sz 24 (W:Rat):=cT (by omega) (by decide)
 have zw:Sz 20 (cR ws i):=cT (by omega) (by decide)
 have zc:Sz (m+294) (cR cs i):=Sz.mono (m:=100) (cT (by omega) (by decide)) (by omega)
 have nW:(W:Rat)≠0:=by
  intro z;have:W=0:=by exact_mod_cast z
  omega
 have fw:bN [.int (ws.getD i 0)]=.ok (.v (dq (cR ws i))):=bV _;have fc:bN [.int (cs.getD i 0)]=.ok (.v (dq (cR cs i))):=bV _;have zx:Sz (m+294) (L * cR ws i / (W:Rat)):=((hL.mul zw).div zW nW).mono (by omega)
 symm;rw[sw.ix hiw];symm;rw[fw];symm;rw[mP hL zw (by omega)];symm;rw[bV];symm;rw[zID (hL.mul zw) zW nW (by omega)];symm
 rw[zQN (j:=i) (d:=dq a) (ds:=am) (by
  symm;rw[sc.ix hi];symm;rw[fc];symm;rw[zEf zx zc (by omega),ea]
  symm) rfl rfl (by omega)]
 symm;rw[zOG (by omega)];symm;rw[eP hL (ea ▸ zLW zx zc) (by omega)];symm;rw[sw.ix hiw];symm
theorem mE(ws:List Int):∀ π:List Nat,iP (cR ws) π=(wS ws π:Rat)
 | []=>rfl
 | i::π=>by rw[bG,mE ws π,lS,QX];rfl
theorem zBc{ws cs:List Int}{wd cd:D}(sw:Sq wd ws)(sc:Sq cd cs){qv:Sl}{r:Rat}{m:Nat}(hm:m<=3000)(hW:Wt ws cs)(hc:∀ c∈cs,0<=c/\c < 10^30)(hr:Sz (m+150) r):∀(π:List Nat)(am:List D)(s6 s7:Sl),(∀ i∈π,i < cs.length)->(∀ i∈π,cR ws i * r<=cR cs i)->π.length<=12->am.length=cs.length->
  ∃ l' W' s' t',gO (gName 6) bZ (kB π) [.val wd,.val cd,qv,.val (dq (r * (wS ws π:Rat))),.val (.int (wS ws π)),.own am,s6,s7]=
   .ok (.nx [.val wd,.val cd,qv,l',W',.own (pC (π.map fun i=>(i,cR ws i * r)) am),s',t'])
 | [],am,s6,s7,_,_,_,_=>⟨_,_,_,_,rfl⟩
 | i::π,am,s6,s7,h1,h2,h4,h5=>by
  have hi:=h1 i Qb;obtain⟨W1,W2⟩:=hW.sum h1;rw[Qm] at h4 W1 W2;have zW:Sz 24 (wS ws (i::π):Rat):=cT (by omega) (by decide)
  have nW:(wS ws (i::π):Rat)≠0:=by
   intro z;have:wS ws (i::π)=0:=by exact_mod_cast z
   omega
  have e1:wS ws (i::π) - ws.getD i 0=wS ws π:=by rw[lS];omega
  have e2:r * (wS ws (i::π):Rat) - cR ws i * r=r * (wS ws π:Rat):=by
   rw[lS,QX];show r * (cR ws i+(wS ws π:Rat)) - cR ws i * r=_
   grind
  have tn:=zIJ sw sc (qv:=qv) (s7:=s7) (W:=wS ws (i::π)) (am:=am) hW hc hm ((hr.mul zW).mono (by omega)) (by omega) (by omega) hi h5 (zHN nW (h2 i Qb))
  rw[e1,e2] at tn;obtain⟨l',W',s',t',e⟩:=zBc sw sc hm hW hc hr π (am.set i (dq (cR ws i * r))) _ _ (fun j hj=>h1 j (Qc _ hj)) (fun j hj=>h2 j (Qc _ hj)) (by omega) (by rw[QH];exact h5)
  refine⟨l',W',s',t',?_⟩
  show gO _ _ (.int (i:Nat)::kB π) _=_
  rw[dL rfl tn,e];rfl
theorem zBZ{ws cs:List Int}{wd cd:D}(sw:Sq wd ws)(sc:Sq cd cs){qv:Sl}{q:Rat}{m:Nat}(hm:m<=3000)(hW:Wt ws cs)(hc:∀ c∈cs,0<=c/\c < 10^30)(hq:Sz m q):∀(π:List Nat)(k:Int)(b:Rat)(am:List D)(s6 s7:Sl),(∀ i∈π,i < cs.length)->π.Pairwise (fun i j=>cR cs i * cR ws j<=cR cs j * cR ws i)->π.length<=12->am.length=cs.length->
  0<=k->k+π.length * 10^30 < 2^110->0<=q - (k:Rat)->q - (k:Rat)<=iP (cR cs) π->b * (wS ws π:Rat)<=q - (k:Rat)->
  ∃ t,b<=t/\iP (dS (cR cs) (cR ws) t) π=q - (k:Rat)/\(∀ i∈π,Sz (m+155) (dS (cR cs) (cR ws) t i))/\∃ l' W' s' t',gO (gName 6) bZ (kB π) [.val wd,.val cd,qv,.val (dq (q - (k:Rat))),.val (.int (wS ws π)),.own am,s6,s7]=
   .ok (.nx [.val wd,.val cd,qv,l',W',.own (pC (π.map fun i=>(i,dS (cR cs) (cR ws) t i)) am),s',t'])
 | [],k,b,am,s6,s7,_,_,_,_,_,_,h6,h7,_=>⟨b,Qd,by rw[iM] at h7 ⊢;grind,fun i h=>by(cases h),_,_,_,_,rfl⟩
 | i::π,k,b,am,s6,s7,h1,h2,h3,h4,h5,h5',h6,h7,h8=>by
  have hi:=h1 i Qb;have h1':∀ j∈π,j < cs.length:=fun j hj=>h1 j (Qc _ hj)
  obtain⟨W1,W2⟩:=hW.sum h1;obtain⟨V1,V2⟩:=hW.sum h1';obtain⟨w1,w2⟩:=hW.at hi;obtain⟨c1,c2⟩:=hc _ (Qi (bQ hi));obtain⟨p1,p2⟩:=Qq.mp h2;rw[Qm] at h3 h5' W1 W2;have ek:((π.length+1:Nat):Int) * 10^30=(π.length:Int) * 10^30+10^30:=by rw[V4,V5];rfl
  have k0:0<=(π.length:Int) * 10^30:=Xp (by omega) (by decide)
  have zW:Sz 24 (wS ws (i::π):Rat):=cT (by omega) (by decide)
  have zk:Sz 110 (k:Rat):=cT (by omega) (by decide)
  have zL:Sz (m+111) (q - (k:Rat)):=(hq.sub zk).mono (by omega)
  have pW:(0:Rat) < (wS ws (i::π):Rat):=by exact_mod_cast (show 0 < wS ws (i::π) by omega)
  have nW:(wS ws (i::π):Rat)≠0:=fun z=>by rw[z] at pW;exact absurd pW (by decide)
  have pw:∀ j,j < cs.length->0 < cR ws j:=fun j hj=>by
   have:=(hW.at hj).1
   unfold cR;exact_mod_cast (show 0 < ws.getD j 0 by omega)
  have e1:wS ws (i::π) - ws.getD i 0=wS ws π:=by rw[lS];omega
  have eW:(wS ws (i::π):Rat)=cR ws i+(wS ws π:Rat):=by rw[lS,QX];rfl
  have pV:(0:Rat)<=(wS ws π:Rat):=by exact_mod_cast (show 0<=wS ws π by omega)
  generalize hL:q - (k:Rat)=L at h6 h7 h8 zL ⊢
  have loop1:∀ {a:Rat} {l' W' s' t':Sl} {am':List D},mn (L * cR ws i / (wS ws (i::π):Rat)) (cR cs i)=a->gO (gName 6) bZ (kB π) [.val wd,.val cd,qv,.val (dq (L - a)),.val (.int (wS ws π)),.own (am.set i (dq a)),.val (.int (i:Nat)),.val (dq (L * cR ws i / (wS ws (i::π):Rat)))]=.ok (.nx [.val wd,.val cd,qv,l',W',.own am',s',t'])->
    gO (gName 6) bZ (kB (i::π)) [.val wd,.val cd,qv,.val (dq L),.val (.int (wS ws (i::π))),.own am,s6,s7]=.ok (.nx [.val wd,.val cd,qv,l',W',.own am',s',t']):=fun {a l' W' s' t' am'} ea e=>by
   have tn:=zIJ sw sc (qv:=qv) (s7:=s7) (W:=wS ws (i::π)) (am:=am) hW hc hm (zL.mono (by omega)) (by omega) (by omega) hi h4 ea
   rw[e1] at tn;show gO _ _ (.int (i:Nat)::kB π) _=_
   rw[dL rfl tn];exact e
  by_cases hx:L * cR ws i / (wS ws (i::π):Rat) < cR cs i
  ·obtain⟨x1,x2⟩:=zHA pW hx
   generalize hr:L / (wS ws (i::π):Rat)=r at x1 x2;have zr:Sz (m+135) r:=hr ▸ (zL.div zW nW).mono (by omega)
   have eL:L=r * (wS ws (i::π):Rat):=by rw[<-hr,Q7 nW]
   have wr:cR ws i * r<=cR cs i:=by
    have e:L * cR ws i / (wS ws (i::π):Rat)=cR ws i * r:=by rw[<-hr];grind
    rw[e] at hx;exact Qf hx
   have later:∀ j∈π,cR ws j * r<=cR cs j:=fun j hj=>zHn (pw i hi) (pw j (h1' j hj)) (p1 j hj) wr
   have gj:∀ j∈i::π,dS (cR cs) (cR ws) r j=cR ws j * r:=fun j hj=>by
    have:cR ws j * r<=cR cs j:=by
     rcases Qe.mp hj with rfl | hj
     ·exact wr
     ·exact later j hj
    unfold dS mn;grind
   have e2:L - cR ws i * r=r * (wS ws π:Rat):=by rw[eL,eW];grind
   obtain⟨l',W',s',t',e⟩:=zBc sw sc (qv:=qv) hm hW hc (zr.mono (by omega)) π (am.set i (dq (cR ws i * r))) (.val (.int (i:Nat))) (.val (dq (L * cR ws i / (wS ws (i::π):Rat)))) h1' later (by omega) (by rw[QH];exact h4)
   refine⟨r,VN (by rw[<-eL];exact h8) pW,?_,fun j hj=>?_,l',W',s',t',loop1 (a:=cR ws i * r) (x1.trans x2) ?_⟩
   ·rw[eK gj,dN,mE,<-eL]
   ·rw[gj j hj]
    have v:=hW.at (h1 j hj);exact(Sz.mul (m:=20) (n:=m+135) (cT (by omega) (by decide)) zr).mono (by omega)
   ·rw[e2,e,Qv,pC,gj i Qb]
    rw[Q5 (g:=fun j=>(j,dS (cR cs) (cR ws) r j)) fun j hj=>by rw[gj j (Qc _ hj)]]
  ·have ea:mn (L * cR ws i / (wS ws (i::π):Rat)) (cR cs i)=cR cs i:=if_neg hx
   obtain⟨b',g1,g2,g3⟩:=zFN (pw i hi) hx pW h8;have ek2:q - ((k+cs.getD i 0:Int):Rat)=L - cR cs i:=by rw[QX,<-hL];show q - ((k:Rat)+cR cs i)=_;grind
   have c0:0<=cR cs i:=by unfold cR;exact_mod_cast c1
   have cL:cR cs i<=L:=by
    have y:=Q3 (QP.mp hx) (Qf pW);rw[Q7 nW] at y;have y2:L * cR ws i<=L * (wS ws (i::π):Rat):=VE (by rw[eW];grind) h6
    exact VN (Qr y y2) pW
   rw[bG] at h7
   have g3':b' * (wS ws π:Rat)<=L - cR cs i:=by
    rw[eW] at g3;have:cR ws i+(wS ws π:Rat) - cR ws i=(wS ws π:Rat):=by grind
    rw[this] at g3;exact g3
   obtain⟨t,t1,t2,tz,l',W',s',t',e⟩:=zBZ sw sc (qv:=qv) hm hW hc hq π (k+cs.getD i 0) b' (am.set i (dq (cR cs i))) (.val (.int (i:Nat))) (.val (dq (L * cR ws i / (wS ws (i::π):Rat)))) h1' p2 (by omega) (by rw[QH];exact h4) (by omega) (by omega) (by rw[ek2];grind) (by rw[ek2];grind) (by rw[ek2];exact g3')
   have gi:dS (cR cs) (cR ws) t i=cR cs i:=by
    have:=VE t1 (Qf (pw i hi))
    unfold dS mn;grind
   rw[ek2] at e t2;refine⟨t,Qr g1 t1,?_,fun j hj=>?_,l',W',s',t',loop1 ea ?_⟩
   ·rw[bG,gi,t2];grind
   ·rcases Qe.mp hj with rfl | hj
    ·rw[gi];exact Sz.mono (m:=100) (cT (by omega) (by decide)) (by omega)
    ·exact tz j hj
   ·rw[e,Qv,pC,gi]
theorem xE{g:Nat->Rat}:∀(π:List Nat)(am:List D)(j:Nat),(pC (π.map fun i=>(i,g i)) am)[j]?=if j∈π then (if j < am.length then some (dq (g j)) else none) else am[j]?
 | [],am,j=>by simp[pC]
 | i::π,am,j=>by
  rw[Qv,pC,xE π,QH];by_cases h1:j∈π
  ·rw[if_pos h1,if_pos (Qc _ h1)]
  ·rw[if_neg h1]
   by_cases h2:j=i
   ·subst h2
    rw[if_pos Qb];by_cases h3:j < am.length
    ·rw[if_pos h3];exact QR h3
    ·rw[if_neg h3,QC (by rw[QH];omega)]
   ·rw[if_neg (by simp[h1,h2]),QL (fun z=>h2 z.symm)]
theorem zFG{g:Nat->Rat}{π:List Nat}{n:Nat}(h:π.Perm (List.range n)):pC (π.map fun i=>(i,g i)) (List.replicate n (dq 0))=((List.range n).map g).map dq:=by
 refine VZ fun j=>?_
 rw[xE,Qt,Qt,VH];by_cases hj:j < n
 ·rw[if_pos (h.mem_iff.mpr (Qj.mpr hj)),if_pos hj,Vb hj];rfl
 ·rw[if_neg (fun z=>hj (Qj.mp (h.mem_iff.mp z))),QC (by rw[VH];omega),QC (by rw[QA];omega)];rfl
theorem zDF(kz:List Int):∃ π,gX kz π:=by
 refine⟨(List.range kz.length).mergeSort (fun i j=>decide (kz.getD i 0<=kz.getD j 0)),Yu _ _,?_⟩
 have:=Yv (le:=fun i j=>decide (kz.getD i 0<=kz.getD j 0)) (fun a b c h1 h2=>by simp only[decide_eq_true_eq] at *;omega) (fun a b=>by simp only[VL,decide_eq_true_eq];omega) (List.range kz.length)
 exact this.imp fun h=>of_decide_eq_true h
theorem zGo{fs:Fv}{kf:List D->Res (List Int)}{g:Gv}{b r:Sv}{ρ:Rho}{kz:List Int}{x:Res Fl}(h1:(fs ρ).bind kf=.ok kz)(h:∀ π,gX kz π->bD (fun ρ=>gO g b (kB π) ρ) r ρ=x):zHD fs kf g b r ρ=x:=by
 obtain⟨π,hπ⟩:=zDF kz;unfold zHD;rw[h1];exact zFv hπ h
def sS:List Rat->Int
 | []=>1
 | x::r=>x.den * sS r
def zIW(B:Int)(x:Rat):Int:=x.num * B.fdiv x.den
theorem zDS:∀ {l:List Rat} {x:Rat},x∈l->(x.den:Int) ∣ sS l
 | y::r,x,h=>by
  rcases Qe.mp h with rfl | h
  ·exact⟨sS r,rfl⟩
  ·exact Int.dvd_trans (zDS h) ⟨y.den,X5 _ _⟩
theorem yJ:∀ l:List Rat,0 < sS l
 | []=>by decide
 | x::r=>Xq (fB x) (yJ r)
theorem zKD{l:List Rat}{x:Rat}(h:x∈l):((zIW (sS l) x:Int):Rat)=x * (sS l:Rat):=by
 obtain⟨k,hk⟩:=zDS h;have d0:=fB x;unfold zIW;rw[fdiv_pos _ d0,hk,Int.mul_ediv_cancel_left _ (by omega),QJ,QJ]
 have e:x * ((x.den:Int):Rat)=(x.num:Rat):=by
  have h1:=Vi x;rw[VA] at h1
  have h2:((x.den:Int):Rat)≠0:=fun z=>by
   have:(x.den:Int)=0:=by exact_mod_cast z
   omega
  rw[<-Q7 (a:=(x.num:Rat)) h2,h1]
 rw[<-e];grind
theorem zBU{a:Sl}:∀(l:List Rat)(B:Int)(s:Sl)(m:Nat),(∀ x∈l,(x.den:Int)<=10^6)->B.natAbs < 2^m->m+20 * l.length<=1000->
  ∃ s',gO (gName 2) xL (l.map dq) [a,.val (.int B),s]=.ok (.nx [a,.val (.int (B * sS l)),s'])/\(B * sS l).natAbs < 2^(m+20 * l.length)
 | [],B,s,m,_,h2,_=>⟨s,by rw[Vo,gO,sS,QY],by rw[sS,QY];exact h2⟩
 | x::r,B,s,m,h1,h2,h3=>by
  have d1:=h1 x Qb;have d0:=fB x;rw[Qm] at h3;have hx:((x.den:Int)).natAbs < 2^20:=by omega
  obtain⟨s',e,hb⟩:=zBU r (B * x.den) (.val (dq x)) (m+20) (fun y hy=>h1 y (Qc _ hy)) (fM h2 hx) (by omega)
  have ed:B * sS (x::r)=B * x.den * sS r:=by rw[sS,X6]
  refine⟨s',?_,by rw[ed,Qm,show m+20 * (r.length+1)=m+20+20 * r.length by omega];exact hb⟩
  rw[ed,<-e,Qv];refine dL (ρ1:=[a,.val (.int B),.val (dq x)]) rfl ?_
  symm;rw[oMul_i (bW (m:=m) (n:=20) h2 hx (by omega))];symm
theorem zEG{B:Int}(hB:B.natAbs < 2^1000):∀ {l:List Rat},(∀ x∈l,(x.den:Int)<=10^6/\Sz 500 x)->oB B (l.map dq)=.ok (l.map (zIW B))
 | [],_=>rfl
 | x::r,h=>by
  obtain⟨d1,z⟩:=h x Qb;have d0:=fB x;have e1:lP (x.den:Int)=true:=sT (m:=20) (by omega) (by omega) (by decide)
  have e2:jX x.num (B.fdiv x.den)=true:=by
   rw[fdiv_pos _ d0];refine bW (m:=500) (n:=1000) z.1 (Vp ?_ hB) (by decide)
   exact Int.natAbs_ediv_le_natAbs _ _
  have k1:zJa B (dq x)=.ok (zIW B x):=by
   show(if (lP (x.den:Int) && jX x.num (B.fdiv x.den))=true then Res.ok _ else .no)=_
   rw[e1,e2];rfl
  rw[Qv,oB,k1];show((oB B (r.map dq)).bind fun ks=>Res.ok (zIW B x::ks))=_
  rw[zEG hB fun y hy=>h y (Qc _ hy)];rfl
theorem xJ{l:List Rat}(h:∀ x∈l,(x.den:Int)<=10^6/\Sz 500 x)(hl:l.length<=12):jF [.lst (l.map dq)]=.ok (l.map (zIW (sS l))):=by
 obtain⟨s',e,hb⟩:=zBU (a:=.val (.lst (l.map dq))) l 1 .un 1 (fun x hx=>(h x hx).1) (by decide) (by omega)
 rw[Int.one_mul] at e hb;have r1:zBh (start 3 [.lst (l.map dq)])=.ok (.nx [.val (.lst (l.map dq)),.val (.int 1),.un]):=rfl
 have r2:tP [.val (.lst (l.map dq)),.val (.int 1),.un]=.ok (.nx [.val (.lst (l.map dq)),.val (.int (sS l)),s']):=by
  symm;exact e
 unfold jF yU;rw[if_pos (show [D.lst (l.map dq)].length=1 from rfl),r1];show(match tP [.val (.lst (l.map dq)),.val (.int 1),.un] with | .ok (.nx ρ')=>zEO ρ' | _=>.no)=_
 rw[r2];show(if (l.map dq).length < 64 then oB (sS l) (l.map dq) else .no)=_
 rw[if_pos (by rw[Qg];omega)];exact zEG (Qo hb (Q2 (by decide) (by omega))) h
def lvs(ws cs:List Int):List Rat:=(cs.zip ws).map fun p=>Rat.divInt p.1 p.2
theorem yL{ws cs:List Int}(h:ws.length=cs.length):(lvs ws cs).length=cs.length:=by unfold lvs;rw[Qg,X3,h,Xm]
theorem zHQ{ws cs:List Int}{i:Nat}(h:ws.length=cs.length)(hi:i < cs.length):(lvs ws cs)[i]?=some (cR cs i / cR ws i):=by
 unfold lvs;rw[Qt]
 have:(cs.zip ws)[i]?=some (cs.getD i 0,ws.getD i 0):=by
  rw[Yw];exact⟨bQ hi,bQ (by omega)⟩
 rw[this];show some (Rat.divInt _ _)=_
 rw[VA];rfl
theorem zEl{t b:Int}(hb:0 < b):((Rat.divInt t b).den:Int)<=b:=by
 have e:=xN (t:=t) (b:=b) (by omega)
 have d0:0<=dv t b:=by unfold dv;rw[if_neg (by omega)];exact Vf _
 rw[<-e,zMa _ d0];exact Int.ediv_le_self _ (by omega)
theorem zKx{ws cs:List Int}(hW:Wt ws cs)(hc:∀ c∈cs,0<=c/\c < 10^30):∀ x∈lvs ws cs,(x.den:Int)<=10^6/\Sz 500 x:=fun x hx=>by
 obtain⟨p,hp,rfl⟩:=Qp.mp hx;obtain⟨h1,h2⟩:=VQ hp;have c:=hc _ h1;have w1:=hW.lo _ h2;have w2:=hW.up _ h2;have d:=zEl (t:=p.1) (b:=p.2) (by omega)
 exact⟨by omega,Sz.of (by omega) (by omega) (by omega)⟩
theorem tO{ws cs:List Int}{wd cd:D}(sw:Sq wd ws)(sc:Sq cd cs)(hW:Wt ws cs)(hl:cs.length<=12):eG [wd,cd]=.ok (.f ((lvs ws cs).map dq)):=by
 have hw:=hW.len;unfold eG;symm;rw[oG sc.seqo sw.seqo];symm
 rw[lT (u:=D.int) (v:=D.int) (g:=fun c w=>dq (Rat.divInt c w)) (by omega) (fun p hp=>by
  have h2:=(VQ hp).2;have w1:=hW.lo _ h2;have w2:=hW.up _ h2;symm;rw[zBA (n:=20) (by omega) (by omega) (by decide)]
  symm)]
 symm;unfold lvs;rw[Qw];rfl
theorem zR(ws:List Int):∀ n,n<=ws.length->wS ws (List.range n)=(ws.take n).sum
 | 0,_=>rfl
 | n+1,h=>by
  have e:wS ws (List.range n++[n])=wS ws (List.range n)+ws.getD n 0:=by unfold wS;rw[QG,Vt];simp
  rw[X1,e,zR ws n (by omega),XL,Vt,bQ (show n < ws.length by omega)];simp
theorem zI{ws:List Int}{π:List Nat}(h:π.Perm (List.range ws.length)):wS ws π=ws.sum:=by
 have e:=mE ws π;rw[uE h,mE,zR ws _ (Qh _),Vc] at e;have:=Rat.intCast_inj.mp e
 omega
theorem zKP{a b:Sv}{ρ ρ':Rho}(h:a ρ=.ok (.nx ρ')):bD a b ρ=b ρ':=by unfold bD;rw[h];rfl
def evs(ws cs:List Int)(t:Rat):List Rat:=(List.range cs.length).map (dS (cR cs) (cR ws) t)
theorem sB{ws cs:List Int}{wd cd:D}(sw:Sq wd ws)(sc:Sq cd cs){q:Rat}{m:Nat}(hmm:m<=3000)(hW:Wt ws cs)(hc:Cl cs)(hq:Sz m q)(h0:0<=q)(h1:q<=(cs.sum:Rat)):∃ t,0<=t/\dF [wd,cd,dq q]=.ok (.f ((evs ws cs t).map dq))/\(evs ws cs t).sum=q/\∀ i,i < cs.length->Sz (m+155) (dS (cR cs) (cR ws) t i):=by
 have hcc:∀ c∈cs,0<=c/\c < 10^30:=fun c h=>⟨hc.nn c h,hc.up c h⟩
 have hi:=hc.hi;have hw:=hW.len;have hkr:=xJ (zKx hW hcc) (by rw[yL hw];exact hi)
 generalize hkz:(lvs ws cs).map (zIW (sS (lvs ws cs)))=kz at hkr;have lz:kz.length=cs.length:=by rw[<-hkz,Qg,yL hw]
 have pw:∀ j,j < cs.length->0 < cR ws j:=fun j hj=>by
  have:=(hW.at hj).1
  unfold cR;exact_mod_cast (show 0 < ws.getD j 0 by omega)
 have one:∀ π,gX kz π->∃ t,0<=t/\iP (dS (cR cs) (cR ws) t) (List.range cs.length)=q/\(∀ i,i < cs.length->Sz (m+155) (dS (cR cs) (cR ws) t i))/\bD (fun ρ=>gO (gName 6) bZ (kB π) ρ) jW [.val wd,.val cd,.val (dq q),.val (dq q),.val (.int ws.sum),.own (List.replicate cs.length (dq 0)),.un,.un]=.ok (.ret (.f ((evs ws cs t).map dq))):=by
  intro π hπ;obtain⟨hp,ho⟩:=hπ;rw[lz] at hp;have hm:∀ i∈π,i < cs.length:=fun i h=>Qj.mp (hp.mem_iff.mp h)
  have hl:π.length=cs.length:=by rw[hp.length_eq,QA]
  have B0:=yJ (lvs ws cs);have B0':(0:Rat) < (sS (lvs ws cs):Rat):=by exact_mod_cast B0
  have kat:∀ i,i < cs.length->((kz.getD i 0:Int):Rat)=cR cs i / cR ws i * (sS (lvs ws cs):Rat):=fun i h=>by
   have e:=zHQ hw h;have e2:kz.getD i 0=zIW (sS (lvs ws cs)) (cR cs i / cR ws i):=by rw[<-hkz,Qy,Qt,e];rfl
   rw[e2];exact zKD (Qi e)
  have ord:π.Pairwise (fun i j=>cR cs i * cR ws j<=cR cs j * cR ws i):=by
   refine VX (fun {i j} h1 h2 h3=>?_) ho
   have h4:((kz.getD i 0:Int):Rat)<=((kz.getD j 0:Int):Rat):=Vu.mpr h3;rw[kat i (hm i h1),kat j (hm j h2)] at h4;have h5:=VN h4 B0';have wi:=pw i (hm i h1);have wj:=pw j (hm j h2);have h6:=Q3 h5 (Qf (XN wi wj));have e1:cR cs i / cR ws i * (cR ws i * cR ws j)=cR cs i * cR ws j:=by grind
   have e2:cR cs j / cR ws j * (cR ws i * cR ws j)=cR cs j * cR ws i:=by grind
   rwa [e1,e2] at h6
  have hW':wS ws π=ws.sum:=zI (by rw[hw];exact hp)
  have hC':iP (cR cs) π=(cs.sum:Rat):=by rw[mE,zI hp]
  have z0:q - ((0:Int):Rat)=q:=by rw[show((0:Int):Rat)=0 from rfl];grind
  obtain⟨t,t1,t2,tz,l',W',s',t',e⟩:=zBZ sw sc (qv:=.val (dq q)) hmm hW hcc hq π 0 0 (List.replicate cs.length (dq 0)) .un .un hm ord (by omega) (by rw[VH]) (by decide) (by rw[hl];omega) (by rw[z0];exact h0) (by rw[z0,hC'];exact h1) (by rw[z0];grind)
  rw[z0,hW'] at e;rw[z0] at t2;refine⟨t,t1,by rw[<-uE hp];exact t2,fun i h=>tz i (hp.mem_iff.mpr (Qj.mpr h)),?_⟩
  refine(zKP (a:=fun ρ=>gO (gName 6) bZ (kB π) ρ) e).trans ?_
  rw[zFG hp];rfl
 obtain⟨π0,hπ0⟩:=zDF kz;obtain⟨t,t1,t2,tz,e0⟩:=one π0 hπ0;have pw':∀ i∈List.range cs.length,0 < cR ws i:=fun i h=>pw i (Qj.mp h)
 refine⟨t,t1,?_,t2,tz⟩
 unfold dF;symm;rw[sw.sum];symm;rw[sc.len];symm;rw[zEg (by omega)];symm
 have hfs:Res.bind ((aE (eF (dC eG (aE (aH 0) (aE (aH 1) aNil)))) aNil) [.val wd,.val cd,.val (dq q),.val (dq q),.val (.int ws.sum),.own (List.replicate cs.length (dq 0)),.un,.un]) jF=.ok kz:=by
  symm;rw[tO sw sc hW hi];symm;exact hkr
 have hall:∀ π,gX kz π->bD (fun ρ=>gO (gName 6) bZ (kB π) ρ) jW [.val wd,.val cd,.val (dq q),.val (dq q),.val (.int ws.sum),.own (List.replicate cs.length (dq 0)),.un,.un]=.ok (.ret (.f ((evs ws cs t).map dq))):=fun π hπ=>by
  obtain⟨u,_,u2,_,eu⟩:=one π hπ;rw[eu];unfold evs;rw[Q5 (yA pw' (u2.trans t2.symm))]
 unfold nT;rw[zGo hfs hall];rfl
def ones(cs:List Int):List Int:=List.replicate cs.length 1
theorem fA(cs:List Int):Wt (ones cs) cs:=⟨VH,fun w h=>by rw[(List.mem_replicate.mp h).2];decide,fun w h=>by rw[(List.mem_replicate.mp h).2];decide⟩
def hf:Rat:=Rat.divInt 1 2
theorem gW:hf=1 / 2:=by unfold hf;rw[VA];rfl
theorem zOA:d_HALF=dq hf:=zPv (b:=2) (by decide)
theorem zGh:Sz 2 hf:=Sz.of (by decide) (by decide) (by decide)
theorem dbl(q:Rat):q+q=q * ((2:Int):Rat):=by rw[show((2:Int):Rat)=2 from rfl];grind
theorem zGY{q:Rat}{n:Nat}(h:Sz n q):Sz (n+2) (q+q):=by rw[dbl];exact h.mul (cT (by decide) (by decide))
def hvs(cs:List Int)(t:Rat):List Rat:=(List.range cs.length).map fun i=>dS (cR cs) (cR (ones cs)) t i * hf
structure Lvl (M:Nat) (ws cs:List Int) (q t:Rat):Prop where
 nn:0<=t
 sum:(evs ws cs t).sum=q
 sz:∀ i,i < cs.length->Sz M (dS (cR cs) (cR ws) t i)
theorem zBX{cs:List Int}{cd:D}(sc:Sq cd cs){q:Rat}{m:Nat}(hm:m<=2990)(hc:Cl cs)(hq:Sz m q)(h0:0<=q)(h1:q+q<=(cs.sum:Rat)):∃ t,Lvl (m+157) (ones cs) cs (q+q) t/\fF [cd,dq q]=.ok (.f ((hvs cs t).map dq)):=by
 have hi:=hc.hi;obtain⟨t,t1,e,t2,tz⟩:=sB (wd:=.lst ((ones cs).map D.int)) (.inl rfl) sc (m:=m+2) (by omega) (fA cs) hc (zGY hq) (by grind) h1
 refine⟨t,⟨t1,t2,fun i h=>(tz i h).mono (by omega)⟩,?_⟩
 have eo:(ones cs).map D.int=List.replicate cs.length (.int 1):=by unfold ones;rw[List.map_replicate]
 rw[eo] at e;have hh:=zOA;unfold d_HALF at hh;unfold fF;symm;rw[sc.len];symm;rw[zEg (by omega)];symm;rw[zCj hq hq (by omega)];symm;rw[e];symm;rw[show(evs (ones cs) cs t).map dq=(List.range cs.length).map (fun i=>dq (dS (cR cs) (cR (ones cs)) t i)) by unfold evs;rw[Qw];rfl]
 rw[eT (u:=fun i=>dq (dS (cR cs) (cR (ones cs)) t i)) (g:=fun i=>dq (dS (cR cs) (cR (ones cs)) t i * hf)) (by rw[QA];omega) (fun i h=>by
  have hil:=Qj.mp h;symm;rw[hh,mP (tz i hil) zGh (by omega)]
  symm)]
 symm;unfold hvs;rw[Qw];rfl
theorem Lvl.mono{M M':Nat}{ws cs:List Int}{q t:Rat}(h:Lvl M ws cs q t)(l:M<=M'):Lvl M' ws cs q t:=⟨h.nn,h.sum,fun i hi=>(h.sz i hi).mono l⟩
theorem tH{w v:Str}(h:aX.lookup w=some v):eD [.str w]=.ok (.v .non):=by
 unfold eD;symm;rw[h];rfl
theorem uF{cs:List Int}{cd:D}(sc:Sq cd cs)(hc:Cl cs):eE [cd]=.ok (.v .non):=by
 have lo:=hc.lo;unfold eE;symm;rw[sc.len];symm;rw[decide_eq_false (by omega)];symm;rw[sc.seq];symm;refine zIl (Q:=fun r=>r=(.ok (.v .non):Res Rt)) (fun ρ=>∃ a,ρ=[.val cd,a]) ⟨_,rfl⟩ ?_ ?_
 ·rintro e ρ he ⟨a,rfl⟩
  obtain⟨c,h,rfl⟩:=Qp.mp he;have:=hc.nn c h
  refine⟨_,?_,.val (.int c),rfl⟩
  symm;rw[decide_eq_false (by omega)];symm
 ·rintro ρ ⟨a,rfl⟩
  rfl
theorem lF{q:Rat}{W:Int}{m:Nat}(hm:m<=3000)(h:Haul m q W)(hW:W.natAbs < 2^110):aZ [dq q,dq (W:Rat)]=.ok (.v .non):=by
 have z0:Sz 1 (0:Rat):=⟨by decide,by decide⟩
 have zW:Sz 110 (W:Rat):=cT hW (by decide)
 have n1:¬ q < 0:=QP.mpr h.nn;have n2:¬ (W:Rat) < q:=QP.mpr h.up
 have io:dZ [dq q,dq (W:Rat)]=.ok (.v (.bl false)):=by
  unfold dZ;symm;rw[jS h.sz z0 (by omega),decide_eq_false n1];symm;rw[jS zW h.sz (by omega),decide_eq_false n2];symm
 unfold aZ;symm;rw[io];symm
theorem lZ{α β:Type}(l:List α)(f:Nat->β)(d:α):l.zip ((List.range l.length).map f)=(List.range l.length).map fun i=>(l.getD i d,f i):=by
 refine VZ fun i=>?_
 rw[Qt];by_cases h:i < l.length
 ·rw[Vb h]
  refine Yw.mpr ⟨?_,by rw[Qt,Vb h];rfl⟩
  show l[i]?=some (l.getD i d)
  rw[Qy,Qn h];rfl
 ·rw[QC (by rw[X3];omega),QC (by rw[QA];omega)];rfl
theorem jH{w:Str}{d:D}{n:Int}(hd:d=.lst []∨d=.tup [])(hw:oIn (.str w) d_WEIGHTED=.ok (.bl false)):bU [.str w,d,.int n]=.ok (.v .non):=by
 have sq:zJO d=.ok []:=by rcases hd with rfl | rfl<;>rfl
 have ln:nQ [d]=.ok (.int 0):=by rcases hd with rfl | rfl<;>rfl
 unfold d_WEIGHTED at hw;unfold bU;symm;rw[hw];symm;rw[ln];symm;rw[sq];rfl
theorem zRC:rL 10 6=true:=by decide
theorem oQ{w:Str}{ws cs:List Int}{wd:D}(sw:Sq wd ws)(hW:Wt ws cs)(hw:oIn (.str w) d_WEIGHTED=.ok (.bl true)):bU [.str w,wd,.int cs.length]=.ok (.v .non):=by
 have hl:=hW.len;unfold d_WEIGHTED at hw;unfold bU;symm;rw[hw];symm;rw[sw.len];symm;rw[hl,decide_eq_true rfl];symm;rw[sw.seq];symm;refine zIl (Q:=fun r=>r=(.ok (.v .non):Res Rt)) (fun ρ=>∃ a,ρ=[.val (.str w),.val wd,.val (.int cs.length),.val (.int cs.length),a]) ⟨_,rfl⟩ ?_ ?_
 ·rintro e ρ he ⟨a,rfl⟩
  obtain⟨c,h,rfl⟩:=Qp.mp he;have h1:=hW.lo c h;have h2:=hW.up c h;refine⟨_,?_,.val (.int c),rfl⟩
  symm;rw[decide_eq_false (by omega)];symm;rw[oPow_i zRC];symm;rw[decide_eq_false (by omega)];symm
 ·rintro ρ ⟨a,rfl⟩
  rfl
theorem zRi:(Str.ofString "even" == Str.ofString "row")=false:=by decide
theorem zRj:(Str.ofString "lack" == Str.ofString "row")=false:=by decide
theorem zRx:(Str.ofString "lack" == Str.ofString "even")=false:=by decide
theorem zRd:(Str.ofString "lack" == Str.ofString "part")=false:=by decide
theorem zRm:(Str.ofString "lack" == Str.ofString "half")=false:=by decide
theorem zEU:(aX.lookup (Str.ofString "even"))=some (Str.ofString "lack"):=by decide
theorem zAj:(aX.lookup (Str.ofString "lack"))=some (Str.ofString "even"):=by decide
theorem zLg{n:Nat}{ws cs:List Int}{wd cd:D}(sw:Sq wd ws)(sc:Sq cd cs){q:Rat}{m:Nat}(hm:m<=3000)(hW:Wt ws cs)(hc:Cl cs)(hq:Sz m q)(h0:0<=q)(h1:q<=(cs.sum:Rat)):∃ t,Lvl (m+155) ws cs q t/\aQ (n+1) [.str (Str.ofString "even"),wd,cd,dq q]=.ok (.f ((evs ws cs t).map dq)):=by
 obtain⟨t,t1,e,t2,tz⟩:=sB sw sc hm hW hc hq h0 h1;refine⟨t,⟨t1,t2,tz⟩,?_⟩
 show aV (aQ n) _=_
 unfold aV;symm;rw[sc.sum];symm;rw[bV];symm;rw[zRi];symm;rw[e];symm
def lks(ws cs:List Int)(t:Rat):List Rat:=(cs.zip (evs ws cs t)).map fun p=>(p.1:Rat) - p.2
theorem zOF(ws cs:List Int)(t:Rat):lks ws cs t=(List.range cs.length).map fun i=>cR cs i - dS (cR cs) (cR ws) t i:=by
 unfold lks evs;rw[lZ cs _ 0,Qw];rfl
theorem zPN{n:Nat}{ws cs:List Int}{wd cd:D}(sw:Sq wd ws)(sc:Sq cd cs){q:Rat}{m:Nat}(hm:m<=2890)(hW:Wt ws cs)(hc:Cl cs)(hq:Haul m q cs.sum):∃ t,Lvl (m+261) ws cs ((cs.sum:Rat) - q) t/\aQ (n+2) [.str (Str.ofString "lack"),wd,cd,dq q]=.ok (.f ((lks ws cs t).map dq)):=by
 have sm:=hc.sum;have hi:=hc.hi;have zW:Sz 105 (cs.sum:Rat):=cT (by omega) (by decide)
 have zT:Sz (m+106) ((cs.sum:Rat) - q):=(zW.sub hq.sz).mono (by omega)
 have u:=hq.up;have u':=hq.nn;obtain⟨t,tl,e⟩:=zLg sw sc (n:=n) (m:=m+106) (by omega) hW hc zT (by grind) (by grind)
 refine⟨t,tl,?_⟩
 show aV (aQ (n+1)) _=_
 unfold aV;symm;rw[sc.sum];symm;rw[bV];symm;rw[zRj];symm;rw[zRx];symm;rw[zRd];symm;rw[zRm];symm;rw[show tU aX (.str (Str.ofString "lack"))=.ok (.str (Str.ofString "even")) by show zNG (aX.lookup (Str.ofString "lack"))=_;rw[zAj];rfl];symm;rw[eP zW hq.sz (by omega)];symm;rw[e];symm;rw[oG sc.seqo rfl];symm
 rw[lT (u:=D.int) (v:=dq) (g:=fun c l=>dq ((c:Rat) - l)) (by omega) (fun p hp=>by
  have hp':=hp;unfold evs at hp';rw[lZ cs _ 0] at hp';obtain⟨i,hir,rfl⟩:=Qp.mp hp';have hil:=Qj.mp hir;have c1:=hc.nn _ (Qi (bQ hil));have c2:=hc.up _ (Qi (bQ hil));symm;rw[bV];symm;rw[eP (m:=100) (n:=m+261) (cT (by omega) (by decide)) (tl.sz i hil) (by omega)]
  symm)]
 symm;unfold lks;rw[Qw];rfl
theorem zQP:(Str.ofString "half" == Str.ofString "row")=false:=by decide
theorem zQa:(Str.ofString "half" == Str.ofString "even")=false:=by decide
theorem zQH:(Str.ofString "half" == Str.ofString "part")=false:=by decide
theorem yT:(aX.lookup (Str.ofString "half"))=some (Str.ofString "half"):=by decide
theorem zIu{n:Nat}{e:D}{cs:List Int}{cd:D}(sc:Sq cd cs){q:Rat}{m:Nat}(hm:m<=2990)(hc:Cl cs)(hq:Sz m q)(h0:0<=q)(h1:q+q<=(cs.sum:Rat)):∃ t,Lvl (m+157) (ones cs) cs (q+q) t/\aQ (n+1) [.str (Str.ofString "half"),e,cd,dq q]=.ok (.f ((hvs cs t).map dq)):=by
 have sm:=hc.sum;have zW:Sz 105 (cs.sum:Rat):=cT (by omega) (by decide)
 obtain⟨t,tl,ee⟩:=zBX sc hm hc hq h0 h1;refine⟨t,tl,?_⟩
 show aV (aQ n) _=_
 unfold aV;symm;rw[sc.sum];symm;rw[bV];symm;rw[zQP];symm;rw[zQa];symm;rw[zQH];symm;rw[zCj hq hq (by omega)];symm;rw[jS zW (zGY hq) (by omega),decide_eq_false (QP.mpr h1)];symm;rw[ee];symm
def lhs(cs:List Int)(t:Rat):List Rat:=(List.range cs.length).map fun i=>cR cs i - dS (cR cs) (cR (ones cs)) t i * hf
theorem zMk{n:Nat}{e:D}{cs:List Int}{cd:D}(sc:Sq cd cs){q:Rat}{m:Nat}(hm:m<=2880)(hc:Cl cs)(hq:Haul m q cs.sum)(h1:(cs.sum:Rat) < q+q):∃ t,Lvl (m+263) (ones cs) cs (((cs.sum:Rat) - q)+((cs.sum:Rat) - q)) t/\aQ (n+2) [.str (Str.ofString "half"),e,cd,dq q]=.ok (.f ((lhs cs t).map dq)):=by
 have sm:=hc.sum;have hi:=hc.hi;have zW:Sz 105 (cs.sum:Rat):=cT (by omega) (by decide)
 have zT:Sz (m+106) ((cs.sum:Rat) - q):=(zW.sub hq.sz).mono (by omega)
 have u:=hq.up;obtain⟨t,tl,ee⟩:=zIu sc (n:=n) (e:=e) (m:=m+106) (by omega) hc zT (by grind) (by grind)
 refine⟨t,tl,?_⟩
 show aV (aQ (n+1)) _=_
 unfold aV;symm;rw[sc.sum];symm;rw[bV];symm;rw[zQP];symm;rw[zQa];symm;rw[zQH];symm;rw[zCj hq.sz hq.sz (by omega)];symm;rw[jS zW (zGY hq.sz) (by omega),decide_eq_true h1];symm;rw[show tU aX (.str (Str.ofString "half"))=.ok (.str (Str.ofString "half")) by show zNG (aX.lookup (Str.ofString "half"))=_;rw[yT];rfl];symm;rw[eP zW hq.sz (by omega)];symm;rw[ee];symm;rw[oG sc.seqo rfl];symm
 rw[lT (u:=D.int) (v:=dq) (g:=fun c l=>dq ((c:Rat) - l)) (by omega) (fun p hp=>by
  have hp':=hp;unfold hvs at hp';rw[lZ cs _ 0] at hp';obtain⟨i,hir,rfl⟩:=Qp.mp hp';have hil:=Qj.mp hir;have c1:=hc.nn _ (Qi (bQ hil));have c2:=hc.up _ (Qi (bQ hil));symm;rw[bV];symm;rw[eP (m:=100) (n:=m+263+2) (cT (by omega) (by decide)) ((tl.sz i hil).mul zGh) (by omega)]
  symm)]
 symm;unfold hvs lhs;rw[lZ cs _ 0,Qw,Qw];rfl
theorem zRp:(Str.ofString "back" == Str.ofString "row")=false:=by decide
theorem zRv:(Str.ofString "back" == Str.ofString "even")=false:=by decide
theorem zRz:(Str.ofString "back" == Str.ofString "part")=false:=by decide
theorem zRw:(Str.ofString "back" == Str.ofString "half")=false:=by decide
theorem zRs:(Str.ofString "part" == Str.ofString "row")=false:=by decide
theorem zRf:(Str.ofString "part" == Str.ofString "even")=false:=by decide
theorem zIq:(aX.lookup (Str.ofString "row"))=some (Str.ofString "back"):=by decide
theorem zY:(aX.lookup (Str.ofString "back"))=some (Str.ofString "row"):=by decide
theorem zEz:(aX.lookup (Str.ofString "part"))=some (Str.ofString "part"):=by decide
theorem zOL{n:Nat}{d e:D}{cs:List Int}{q:Rat}(hd:d=.lst (cs.map D.int)∨d=.tup (cs.map D.int)){m:Nat}(hm:m<=3000)(hc:Cl cs)(hq:Sz m q)(h0:0<=q):aQ (n+1) [.str (Str.ofString "row"),e,d,dq q]=.ok (.f ((iV cs 0 q).map dq)):=by
 have su:zAS [d]=.ok (.int cs.sum):=by rcases hd with rfl | rfl;exact bSum_l;exact bSum_t
 show aV (aQ n) _=_
 unfold aV;symm;rw[su];symm;rw[bV];symm;rw[zDh hd hm hc hq h0];symm
theorem zPh{n:Nat}{d e:D}{cs:List Int}{q:Rat}(hd:d=.lst (cs.map D.int)∨d=.tup (cs.map D.int)){m:Nat}(hm:m<=3000)(hc:Cl cs)(hq:Sz m q):aQ (n+1) [.str (Str.ofString "part"),e,d,dq q]=.ok (.f ((zAk cs q).map dq)):=by
 have su:zAS [d]=.ok (.int cs.sum):=by rcases hd with rfl | rfl;exact bSum_l;exact bSum_t
 show aV (aQ n) _=_
 unfold aV;symm;rw[su];symm;rw[bV];symm;rw[zRs];symm;rw[zRf];symm;rw[zBg hd hm hc hq];symm
theorem zLy(f g:Nat->Rat):∀ n:Nat,((List.range n).map fun i=>f i - g i).sum=((List.range n).map f).sum - ((List.range n).map g).sum
 | 0=>by simp only[List.range_zero,Vo,X7];grind
 | n+1=>by
  rw[X1,QG,QG,QG,Vt,Vt,Vt,zLy f g n];simp only[Qv,Vo,QE,X7];grind
theorem sG(cs:List Int):((List.range cs.length).map (cR cs)).sum=(cs.sum:Rat):=by
 have e:=mE cs (List.range cs.length);rw[zR cs _ (Qh _),Vc] at e;exact e
theorem oA{ws cs:List Int}{t:Rat}(hW:Wt ws cs)(hc:Cl cs)(h0:0<=t){i:Nat}(hi:i < cs.length):0<=dS (cR cs) (cR ws) t i/\dS (cR cs) (cR ws) t i<=cR cs i:=by
 have w:=(hW.at hi).1;have c:=hc.nn _ (Qi (bQ hi));have w':(0:Rat)<=cR ws i:=by unfold cR;exact_mod_cast (show 0<=ws.getD i 0 by omega)
 have c':(0:Rat)<=cR cs i:=by unfold cR;exact_mod_cast c
 have:=Xr w' h0
 unfold dS mn;grind
theorem zKK(x:Rat):(x.num:Rat)=x * ((x.den:Int):Rat):=by
 have d0:=fB x
 have nd:((x.den:Int):Rat)≠0:=fun z=>by
  have:(x.den:Int)=0:=by exact_mod_cast z
  omega
 have h1:=Vi x;rw[VA] at h1;rw[<-Q7 (a:=(x.num:Rat)) nd,h1]
theorem zGB{l:List Rat}{n:Nat}(h:l.length=n):l=(List.range n).map fun i=>l.getD i 0:=by
 refine VZ fun i=>?_
 rw[Qt];by_cases hi:i < n
 ·rw[Vb hi,Qn (by omega)]
  show _=some (l.getD i 0)
  rw[Qy,Qn (by omega)];rfl
 ·rw[QC (by omega),QC (by rw[QA];omega)];rfl
def zDW(cs:List Int)(q:Rat)(i:Nat):Rat:=(iV cs 0 q).getD i 0
theorem zHO:∀(cs:List Int)(a:Int)(q:Rat)(i:Nat),(∀ c∈cs,0<=c)->i < cs.length->0<=(iV cs a q).getD i 0/\(iV cs a q).getD i 0<=cR cs i
 | c::r,a,q,0,h,_=>by
  have c0:(0:Rat)<=(c:Rat):=by exact_mod_cast h c Qb
  show 0<=mn (ps0 (q - (a:Rat))) (c:Rat)/\mn (ps0 (q - (a:Rat))) (c:Rat)<=(c:Rat)
  unfold mn ps0;grind
 | c::r,a,q,i+1,h,hi=>zHO r (a+c) q i (fun x hx=>h x (Qc _ hx)) (by rw[Qm] at hi;omega)
theorem uU:∀(cs:List Int)(a:Int){q q':Rat}(i:Nat),q<=q'->(iV cs a q).getD i 0<=(iV cs a q').getD i 0
 | [],_,_,_,_,_=>Qd
 | c::r,a,q,q',0,h=>by
  show mn (ps0 (q - (a:Rat))) (c:Rat)<=mn (ps0 (q' - (a:Rat))) (c:Rat)
  unfold mn ps0;grind
 | c::r,a,q,q',i+1,h=>uU r (a+c) i h
theorem zEi:∀(cs:List Int)(a:Int)(q:Rat),(∀ c∈cs,0<=c)->0<=cs.sum/\(iV cs a q).sum=mn (ps0 (q - (a:Rat))) (cs.sum:Rat)
 | [],a,q,_=>⟨V3 _,by show(0:Rat)=mn (ps0 _) ((0:Int):Rat);rw[show((0:Int):Rat)=0 from rfl];unfold mn ps0;grind⟩
 | c::r,a,q,h=>by
  have c0:=h c Qb;obtain⟨s0,e⟩:=zEi r (a+c) q fun x hx=>h x (Qc _ hx)
  have c0':(0:Rat)<=(c:Rat):=by exact_mod_cast c0
  have s0':(0:Rat)<=(r.sum:Rat):=by exact_mod_cast s0
  rw[QE];refine⟨by omega,?_⟩
  rw[iV,QE,e,QX,QX];unfold mn ps0;grind
theorem zHt{q:Rat}{m:Nat}(hq:Sz m q):∀(cs:List Int)(a:Int),(∀ c∈cs,0<=c)->(∀ c∈cs,c < 10^30)->0<=a->a+cs.length * 10^30 < 2^110->∀ x∈iV cs a q,Sz (m+111) x
 | [],_,_,_,_,_,x,hx=>by cases hx
 | c::r,a,h1,h2,h3,h4,x,hx=>by
  have c0:=h1 c Qb;have c1:=h2 c Qb;rw[Qm] at h4;have e4:((r.length+1:Nat):Int) * 10^30=(r.length:Int) * 10^30+10^30:=by rw[V4,V5];rfl
  have r0:0<=(r.length:Int) * 10^30:=Xp (by omega) (by decide)
  rw[iV] at hx;rcases Qe.mp hx with rfl | hx
  ·exact zLW (zOD (hq.sub (cT (n:=110) (by omega) (by decide))) (by omega)) (Sz.mono (m:=100) (cT (by omega) (by decide)) (by omega))
  ·exact zHt hq r (a+c) (fun x hx=>h1 x (Qc _ hx)) (fun x hx=>h2 x (Qc _ hx)) (by omega) (by omega) x hx
theorem zCO{cs:List Int}{q:Rat}{m:Nat}(hc:Cl cs)(hq:Sz m q)(h0:0<=q)(h1:q<=(cs.sum:Rat)):(iV cs 0 q=(List.range cs.length).map (zDW cs q))/\(iV cs 0 q).sum=q/\∀ x∈iV cs 0 q,Sz (m+111) x:=by
 have hi:=hc.hi;refine⟨zGB (zBK _ _ _),?_,zHt hq cs 0 hc.nn hc.up (by decide) (by omega)⟩
 rw[(zEi cs 0 q hc.nn).2,show((0:Int):Rat)=0 from rfl];unfold mn ps0;grind
theorem zPs{n:Nat}{e:D}{cs:List Int}{cd:D}(sc:Sq cd cs){q:Rat}{m:Nat}(hm:m<=2890)(hc:Cl cs)(hq:Haul m q cs.sum):aQ (n+2) [.str (Str.ofString "back"),e,cd,dq q]=.ok (.f (((List.range cs.length).map fun i=>cR cs i - zDW cs ((cs.sum:Rat) - q) i).map dq)):=by
 have sm:=hc.sum;have hi:=hc.hi;have zW:Sz 105 (cs.sum:Rat):=cT (by omega) (by decide)
 have zT:Sz (m+106) ((cs.sum:Rat) - q):=(zW.sub hq.sz).mono (by omega)
 have u:=hq.up;have u':=hq.nn;obtain⟨r1,r2,r3⟩:=zCO hc zT (by grind) (by grind)
 have ee:=zOL (n:=n) (e:=e) sc (m:=m+106) (by omega) hc zT (by grind)
 show aV (aQ (n+1)) _=_
 unfold aV;symm;rw[sc.sum];symm;rw[bV];symm;rw[zRp];symm;rw[zRv];symm;rw[zRz];symm;rw[zRw];symm;rw[show tU aX (.str (Str.ofString "back"))=.ok (.str (Str.ofString "row")) by show zNG (aX.lookup (Str.ofString "back"))=_;rw[zY];rfl];symm;rw[eP zW hq.sz (by omega)];symm;rw[ee];symm;rw[oG sc.seqo rfl];symm
 rw[lT (u:=D.int) (v:=dq) (g:=fun c l=>dq ((c:Rat) - l)) (by omega) (fun p hp=>by
  obtain⟨p1,p2⟩:=VQ hp;have c1:=hc.nn _ p1;have c2:=hc.up _ p1;symm;rw[bV];symm;rw[eP (m:=100) (n:=m+106+111) (cT (by omega) (by decide)) (r3 _ p2) (by omega)]
  symm)]
 symm;rw[r1,lZ cs _ 0,Qw,Qw];rfl
def kD(cs:List Int)(q:Rat)(i:Nat):Rat:=(zAk cs q).getD i 0
theorem zEJ{cs:List Int}{q:Rat}{i:Nat}(hi:i < cs.length):kD cs q i=Rat.divInt (cs.getD i 0 * q.num) (max 1 cs.sum * q.den):=by
 unfold kD zAk;rw[Qy,Qt,bQ hi];rfl
theorem jB{cs:List Int}{q:Rat}(hc:Cl cs){i:Nat}(hi:i < cs.length):kD cs q i * (cs.sum:Rat)=q * cR cs i/\(cs.sum=0->kD cs q i=0):=by
 have sm:=hc.sum;have e:=zEJ (q:=q) hi;by_cases z:cs.sum=0
 ·have c0:=pS hc.nn z _ (Qi (bQ hi))
  have p0:kD cs q i=0:=by rw[e,c0,Int.zero_mul,XQ]
  refine⟨?_,fun _=>p0⟩
  rw[p0];unfold cR;rw[c0,show((0:Int):Rat)=0 from rfl];grind
 ·have W0:0 < cs.sum:=by omega
  have nW:(cs.sum:Rat)≠0:=fun y=>by
   have:cs.sum=0:=by exact_mod_cast y
   omega
  refine⟨?_,fun y=>absurd y z⟩
  rw[e,Int.max_eq_right (by omega),<-zGW W0];show q / (cs.sum:Rat) * cR cs i * (cs.sum:Rat)=_
  grind
theorem zHK{cs:List Int}{q:Rat}{m:Nat}(hc:Cl cs)(hq:Sz m q){i:Nat}(hi:i < cs.length):Sz (m+370) (kD cs q i):=by
 have sm:=hc.sum;have c1:=hc.nn _ (Qi (bQ hi));have c2:=hc.up _ (Qi (bQ hi));rw[zEJ hi];have d0:=fB q;have p:=Xq (show 0 < max 1 cs.sum by omega) d0
 exact Sz.of (by omega) (Qo (fM (m:=100) (n:=m) (by omega) hq.1) (Q2 (by decide) (by omega))) (Qo (fM (m:=110) (n:=m) (by omega) hq.d) (Q2 (by decide) (by omega)))
inductive Wy where
 | row | back | even | lack | part | half
def Wy.s:Wy->Str
 | .row=>Str.ofString "row"
 | .back=>Str.ofString "back"
 | .even=>Str.ofString "even"
 | .lack=>Str.ofString "lack"
 | .part=>Str.ofString "part"
 | .half=>Str.ofString "half"
def Wy.due(w:Wy)(ws cs:List Int):Prop:=match w with
 | .even=>Wt ws cs
 | .lack=>Wt ws cs
 | _=>ws=[]
def Al(M:Nat)(ws cs:List Int)(q:Rat)(f:Nat->Rat):Wy->Prop
 | .row=>∀ i,i < cs.length->f i=zDW cs q i
 | .back=>∀ i,i < cs.length->f i=cR cs i - zDW cs ((cs.sum:Rat) - q) i
 | .even=>∃ t,Lvl M ws cs q t/\∀ i,i < cs.length->f i=dS (cR cs) (cR ws) t i
 | .lack=>∃ t,Lvl M ws cs ((cs.sum:Rat) - q) t/\∀ i,i < cs.length->f i=cR cs i - dS (cR cs) (cR ws) t i
 | .part=>∀ i,i < cs.length->f i=kD cs q i
 | .half=>∃ t,(q+q<=(cs.sum:Rat)/\Lvl M (ones cs) cs (q+q) t/\∀ i,i < cs.length->f i=dS (cR cs) (cR (ones cs)) t i * hf)∨((cs.sum:Rat) < q+q/\Lvl M (ones cs) cs (((cs.sum:Rat) - q)+((cs.sum:Rat) - q)) t/\∀ i,i < cs.length->f i=cR cs i - dS (cR cs) (cR (ones cs)) t i * hf)
theorem zCu{w:Wy}{ws cs:List Int}{wd cd:D}(sw:Sq wd ws)(sc:Sq cd cs){q:Rat}{m:Nat}(hm:m<=2880)(hw:w.due ws cs)(hc:Cl cs)(hq:Haul m q cs.sum):∃ f,aQ 2 [.str w.s,wd,cd,dq q]=.ok (.f (((List.range cs.length).map f).map dq))/\Al (m+263) ws cs q f w:=by
 have z:=hq.sz
 cases w with
 | row=>exact⟨zDW cs q,by rw[<-(zCO hc z hq.nn hq.up).1];exact zOL sc (by omega) hc z hq.nn,fun i _=>rfl⟩
 | back=>exact⟨_,zPs sc (by omega) hc hq,fun i _=>rfl⟩
 | even=>
  obtain⟨t,tl,e⟩:=zLg sw sc (n:=1) (by omega) hw hc z hq.nn hq.up
  exact⟨_,e,t,tl.mono (by omega),fun i _=>rfl⟩
 | lack=>
  obtain⟨t,tl,e⟩:=zPN sw sc (n:=0) (by omega) hw hc hq
  rw[zOF] at e;exact⟨_,e,t,tl.mono (by omega),fun i _=>rfl⟩
 | part=>
  refine⟨kD cs q,?_,fun i _=>rfl⟩
  have e:zAk cs q=(List.range cs.length).map (kD cs q):=zGB (by unfold zAk;rw[Qg])
  rw[<-e];exact zPh sc (by omega) hc z
 | half=>
  by_cases h:(cs.sum:Rat) < q+q
  ·obtain⟨t,tl,e⟩:=zMk sc (n:=0) (e:=wd) (by omega) hc hq h
   exact⟨_,e,t,.inr ⟨h,tl,fun i _=>rfl⟩⟩
  ·obtain⟨t,tl,e⟩:=zIu sc (n:=1) (e:=wd) (by omega) hc z hq.nn (QP.mp h)
   exact⟨_,e,t,.inl ⟨QP.mp h,tl.mono (by omega),fun i _=>rfl⟩⟩
theorem zLH(w:Wy):∃ v,aX.lookup w.s=some v:=by
 cases w
 ·exact⟨_,zIq⟩
 ·exact⟨_,zY⟩
 ·exact⟨_,zEU⟩
 ·exact⟨_,zAj⟩
 ·exact⟨_,zEz⟩
 ·exact⟨_,yT⟩
theorem zDU{w:Wy}{ws cs:List Int}{wd cd:D}(sw:Sq wd ws)(sc:Sq cd cs)(hw:w.due ws cs)(hc:Cl cs):kT [.str w.s,wd,cd]=.ok (.v .non):=by
 have rw':bU [.str w.s,wd,.int cs.length]=.ok (.v .non):=by
  cases w with
  | even=>exact oQ sw hw rfl
  | lack=>exact oQ sw hw rfl
  | row=>have e:ws=[]:=hw;rw[e] at sw;exact jH sw rfl
  | back=>have e:ws=[]:=hw;rw[e] at sw;exact jH sw rfl
  | part=>have e:ws=[]:=hw;rw[e] at sw;exact jH sw rfl
  | half=>have e:ws=[]:=hw;rw[e] at sw;exact jH sw rfl
 obtain⟨v,hv⟩:=zLH w;unfold kT;symm;rw[tH hv];symm;rw[uF sc hc];symm;rw[sc.len];symm;rw[rw'];symm
theorem zNg{w:Wy}{ws cs:List Int}{wd cd:D}(sw:Sq wd ws)(sc:Sq cd cs){q:Rat}{m:Nat}(hm:m<=2880)(hw:w.due ws cs)(hc:Cl cs)(hq:Haul m q cs.sum):∃ f,qP [.str w.s,wd,cd,dq q]=.ok (.f (((List.range cs.length).map f).map dq))/\Al (m+263) ws cs q f w:=by
 obtain⟨f,rd,al⟩:=zCu sw sc hm hw hc hq;have sm:=hc.sum;refine⟨f,?_,al⟩
 unfold qP;symm;rw[zDU sw sc hw hc];symm;rw[sc.sum];symm;rw[bV];symm;rw[lF (by omega) hq (by omega)];symm;rw[rd];symm
structure Dl (M:Nat) (cs:List Int) (q:Rat) (f:Nat->Rat):Prop where
 bd:∀ i,i < cs.length->0<=f i/\f i<=cR cs i/\Sz M (f i)
 sum:((List.range cs.length).map f).sum=q
theorem zBI{f g:Nat->Rat}{n:Nat}(h:∀ i,i < n->f i=g i):((List.range n).map f).sum=((List.range n).map g).sum:=by rw[Q5 fun i hi=>h i (Qj.mp hi)]
theorem Dl.congr{M:Nat}{cs:List Int}{q:Rat}{f g:Nat->Rat}(d:Dl M cs q g)(h:∀ i,i < cs.length->f i=g i):Dl M cs q f:=⟨fun i hi=>by rw[h i hi];exact d.bd i hi,by rw[zBI h];exact d.sum⟩
theorem Dl.mono{M M':Nat}{cs:List Int}{q:Rat}{f:Nat->Rat}(d:Dl M cs q f)(h:M<=M'):Dl M' cs q f:=⟨fun i hi=>⟨(d.bd i hi).1,(d.bd i hi).2.1,(d.bd i hi).2.2.mono h⟩,d.sum⟩
theorem zGS{cs:List Int}(hc:Cl cs){i:Nat}(hi:i < cs.length):0<=cR cs i/\Sz 100 (cR cs i):=by
 have c1:=hc.nn _ (Qi (bQ hi));have c2:=hc.up _ (Qi (bQ hi));exact⟨by unfold cR;exact_mod_cast c1,cT (by omega) (by decide)⟩
theorem Dl.dual{M:Nat}{cs:List Int}{q q':Rat}{g:Nat->Rat}(hc:Cl cs)(d:Dl M cs q' g)(h:q'=(cs.sum:Rat) - q):Dl (100+M+1) cs q (fun i=>cR cs i - g i):=by
 refine⟨fun i hi=>?_,?_⟩
 ·obtain⟨b1,b2,b3⟩:=d.bd i hi
  exact⟨by grind,by grind,(zGS hc hi).2.sub b3⟩
 ·rw[zLy,sG,d.sum]
  grind
theorem zLo{m:Nat}{cs:List Int}{q:Rat}(hc:Cl cs)(hq:Sz m q)(h0:0<=q)(h1:q<=(cs.sum:Rat)):Dl (m+111) cs q (zDW cs q):=by
 obtain⟨e,s,z⟩:=zCO hc hq h0 h1;refine⟨fun i hi=>?_,by rw[<-e];exact s⟩
 obtain⟨b1,b2⟩:=zHO cs 0 q i hc.nn hi;exact⟨b1,b2,z _ (by rw[e];exact Qp.mpr ⟨i,Qj.mpr hi,rfl⟩)⟩
theorem zLx{M:Nat}{ws cs:List Int}{q t:Rat}(hW:Wt ws cs)(hc:Cl cs)(tl:Lvl M ws cs q t):Dl M cs q (dS (cR cs) (cR ws) t):=
 ⟨fun i hi=>⟨(oA hW hc tl.nn hi).1,(oA hW hc tl.nn hi).2,tl.sz i hi⟩,tl.sum⟩
theorem zIi{M:Nat}{cs:List Int}{q t:Rat}(hc:Cl cs)(tl:Lvl M (ones cs) cs (q+q) t):Dl (M+2) cs q (fun i=>dS (cR cs) (cR (ones cs)) t i * hf):=by
 refine⟨fun i h=>?_,?_⟩
 ·obtain⟨b1,b2⟩:=oA (fA cs) hc tl.nn h
  exact⟨by rw[gW];grind,by rw[gW];grind,(tl.sz i h).mul zGh⟩
 ·have e:=tl.sum
  have e2:=dN (w:=dS (cR cs) (cR (ones cs)) t) (t:=hf) (l:=List.range cs.length);unfold evs at e;unfold iP at e2;rw[e2,e,gW];grind
theorem zLA{a b s:Rat}(hs:s≠0)(h:a * s=b * s):a=b:=by
 have e1:a * s / s=a:=by grind
 have e2:b * s / s=b:=by grind
 rw[<-e1,<-e2,h]
theorem rW{a b s:Rat}(hs:0 < s)(h:a * s<=b * s):a<=b:=VN h hs
theorem zNA{m:Nat}{cs:List Int}{q:Rat}(hc:Cl cs)(hq:Sz m q)(h0:0<=q)(h1:q<=(cs.sum:Rat)):Dl (m+370) cs q (kD cs q):=by
 have sm:=hc.sum;have cn:∀ i,i < cs.length->0<=cR cs i:=fun i hi=>(zGS hc hi).1
 have sc:iP (fun i=>kD cs q i * (cs.sum:Rat)) (List.range cs.length)=q * (cs.sum:Rat):=by
  rw[eK (g:=fun i=>cR cs i * q) fun i hi=>by rw[(jB hc (Qj.mp hi)).1];grind];rw[dN,show iP (cR cs) (List.range cs.length)=(cs.sum:Rat) from sG cs]
 rw[dN] at sc;by_cases z:cs.sum=0
 ·have p0:∀ i,i < cs.length->kD cs q i=cR cs i:=fun i hi=>by
   have c0:=pS hc.nn z _ (Qi (bQ hi));rw[(jB hc hi).2 z];unfold cR;rw[c0];rfl
  refine⟨fun i hi=>⟨by rw[p0 i hi];exact cn i hi,by rw[p0 i hi];exact Qd,zHK hc hq hi⟩,?_⟩
  rw[zBI p0,sG];have:(cs.sum:Rat)=0:=by rw[z];rfl
  grind
 ·have W:(0:Rat) < (cs.sum:Rat):=by exact_mod_cast (show 0 < cs.sum by omega)
  refine⟨fun i hi=>?_,?_⟩
  ·have e:=(jB (q:=q) hc hi).1
   have c0:=cn i hi;refine⟨rW W (by rw[e];have:=Xr h0 c0;grind),rW W ?_,zHK hc hq hi⟩
   rw[e];have:=Q3 h1 c0
   grind
  ·exact zLA (s:=(cs.sum:Rat)) (by grind) (by rw[Rat.mul_comm];exact sc)
theorem zMR{m:Nat}{w:Wy}{ws cs:List Int}{q:Rat}{f:Nat->Rat}(hw:w.due ws cs)(hc:Cl cs)(hq:Haul m q cs.sum)(al:Al (m+263) ws cs q f w):Dl (m+370) cs q f:=by
 have sm:=hc.sum;have zW:Sz 105 (cs.sum:Rat):=cT (by omega) (by decide)
 have z:=hq.sz;have z':Sz (m+106) ((cs.sum:Rat) - q):=(zW.sub hq.sz).mono (by omega)
 have n:=hq.nn;have u:=hq.up
 cases w with
 | row=>exact((zLo hc z n u).mono (by omega)).congr al
 | back=>exact((Dl.dual hc (zLo hc z' (by grind) (by grind)) rfl).mono (by omega)).congr al
 | even=>
  obtain⟨t,tl,e⟩:=al;exact((zLx hw hc tl).mono (by omega)).congr e
 | lack=>
  obtain⟨t,tl,e⟩:=al;exact((Dl.dual hc (zLx hw hc tl) rfl).mono (by omega)).congr e
 | part=>exact(zNA hc z n u).congr al
 | half=>
  obtain⟨t,⟨c,tl,e⟩ | ⟨c,tl,e⟩⟩:=al
  ·exact((zIi hc tl).mono (by omega)).congr e
  ·exact((Dl.dual hc (zIi hc tl) rfl).mono (by omega)).congr e
theorem zAB:∀(cs:List Int)(a:Int)(q:Rat)(i:Nat),i < cs.length->(iV cs a q).getD i 0=mn (ps0 (q - ((a+(cs.take i).sum:Int):Rat))) (cR cs i)
 | c::r,a,q,0,_=>by simp[iV,cR]
 | c::r,a,q,i+1,h=>by
  have ih:=zAB r (a+c) q i (by simpa using h)
  rw[Xs,QE,<-X8];show(iV r (a+c) q).getD i 0=_
  rw[ih];rfl
def Dn(B:Int)(x:Rat):Prop:=∃ k:Int,x * (B:Rat)=(k:Rat)
theorem Dn.add{B:Int}{x y:Rat}(hx:Dn B x)(hy:Dn B y):Dn B (x+y):=by
 obtain⟨a,ha⟩:=hx;obtain⟨b,hb⟩:=hy;exact⟨a+b,by rw[QX,<-ha,<-hb];grind⟩
theorem Dn.sub{B:Int}{x y:Rat}(hx:Dn B x)(hy:Dn B y):Dn B (x - y):=by
 obtain⟨a,ha⟩:=hx;obtain⟨b,hb⟩:=hy;exact⟨a - b,by rw[Rat.intCast_sub,<-ha,<-hb];grind⟩
theorem Dn.int(B c:Int):Dn B (c:Rat):=⟨c * B,by rw[QJ]⟩
theorem Dn.zero(B:Int):Dn B 0:=Dn.int B 0
theorem Dn.mn{B:Int}{x y:Rat}(hx:Dn B x)(hy:Dn B y):Dn B (Lw.mn x y):=by
 unfold Lw.mn;split
 ·exact hx
 ·exact hy
theorem Dn.ps{B:Int}{x:Rat}(hx:Dn B x):Dn B (ps0 x):=by
 unfold ps0;split
 ·exact Dn.zero B
 ·exact hx
theorem Dn.den(x:Rat):Dn (x.den:Int) x:=⟨x.num,(zKK x).symm⟩
theorem Dn.le{B:Int}{x:Rat}(h:Dn B x)(hB:0 < B):(x.den:Int)<=B:=by
 obtain⟨a,ha⟩:=h
 have nB:(B:Rat)≠0:=fun z=>by
  have:B=0:=by exact_mod_cast z
  omega
 have e:x=Rat.divInt a B:=by
  rw[VA,<-ha];grind
 rw[e];exact zEl hB
theorem Dn.sz{B c:Int}{x:Rat}{a b:Nat}(h:Dn B x)(hB:0 < B)(hb:B < 2^b)(h0:0<=x)(h1:x<=(c:Rat))(hc:c < 2^a):Sz (a+b) x:=by
 have le:=h.le hB;have d0:=fB x;have n0:0<=x.num:=Rat.num_nonneg.mpr h0
 have c0:0<=c:=by
  have:((0:Int):Rat)<=(c:Rat):=Qr (by rw[show((0:Int):Rat)=0 from rfl];exact h0) h1
  exact Vu.mp this
 have n1:x.num<=c * x.den:=by
  have:((x.num:Int):Rat)<=((c * x.den:Int):Rat):=by
   rw[QJ,zKK];exact Q3 h1 (by have z:(0:Int)<=x.den:=(by omega);exact_mod_cast z)
  exact Vu.mp this
 have hb':(x.den:Int).natAbs < 2^b:=by
  have:((2:Nat)^b:Nat)=((2:Int)^b):=by rw[Int.natCast_pow];rfl
  omega
 have ha':c.natAbs < 2^a:=by
  have:((2:Nat)^a:Nat)=((2:Int)^a):=by rw[Int.natCast_pow];rfl
  omega
 have m:=fM ha' hb';refine⟨by omega,?_⟩
 have:2^b<=2^(a+b):=Q2 (by decide) (by omega)
 omega
theorem tV{c w:Nat->Rat}{ci wi:Nat->Int}{t:Rat}(hc:∀ i,c i=(ci i:Rat))(hw:∀ i,w i=(wi i:Rat)):∀ l:List Nat,(∀ i∈l,1<=wi i/\wi i<=10^6)->∃ F W:Int,iP (dS c w t) l=(W:Rat) * t+(F:Rat)/\0<=W/\W<=l.length * 10^6/\(W=0->∀ i∈l,dS c w t i=c i)
 | [],_=>⟨0,0,by rw[iM,show((0:Int):Rat)=0 from rfl];grind,by decide,by decide,fun _ i h=>by cases h⟩
 | i::l,h=>by
  obtain⟨F,W,e,w0,w1,f⟩:=tV (t:=t) hc hw l fun j hj=>h j (Qc _ hj)
  have hi:=h i Qb;have ek:((l.length+1:Nat):Int) * 10^6=(l.length:Int) * 10^6+10^6:=by rw[V4,V5];rfl
  rw[bG,Qm];by_cases z:w i * t < c i
  ·have g:dS c w t i=w i * t:=if_pos z
   refine⟨F,W+wi i,?_,by omega,by omega,fun z=>by omega⟩
   rw[g,e,QX,hw];grind
  ·have g:dS c w t i=c i:=if_neg z
   refine⟨F+ci i,W,?_,w0,by omega,fun z j hj=>?_⟩
   ·rw[g,e,QX,hc]
    grind
   ·rcases Qe.mp hj with rfl | hj
    ·exact g
    ·exact f z j hj
theorem zDR{M:Nat}{ws cs:List Int}{q t:Rat}{B:Int}(hW:Wt ws cs)(hl:cs.length<=12)(tl:Lvl M ws cs q t)(hq:Dn B q):∃ E:Int,0 < E/\E<=12 * 10^6/\∀ i,i < cs.length->Dn (B * E) (dS (cR cs) (cR ws) t i):=by
 obtain⟨F,W,e,w0,w1,f⟩:=tV (c:=cR cs) (w:=cR ws) (ci:=fun i=>cs.getD i 0) (wi:=fun i=>ws.getD i 0) (t:=t) (fun _=>rfl) (fun _=>rfl) (List.range cs.length) fun i hi=>hW.at (Qj.mp hi)
 have s:iP (dS (cR cs) (cR ws) t) (List.range cs.length)=q:=tl.sum;rw[QA] at w1;by_cases z:W=0
 ·refine⟨1,by decide,by decide,fun i hi=>?_⟩
  rw[f z i (Qj.mpr hi)];exact Dn.int _ _
 ·refine⟨W,by omega,by omega,fun i hi=>?_⟩
  unfold dS;refine Dn.mn ?_ (Dn.int _ _)
  obtain⟨k,hk⟩:=hq.sub (Dn.int B F);refine⟨ws.getD i 0 * k,?_⟩
  rw[QJ,QJ,<-hk,<-s,e];show cR ws i * t * _=cR ws i * _
  grind
theorem zFL{B:Int}{x:Rat}(h:Dn B x):Dn (B * 2) (x * hf):=by
 obtain⟨k,hk⟩:=h;refine⟨k,?_⟩
 rw[<-hk,QJ,gW,show((2:Int):Rat)=2 from rfl];grind
theorem zKX{cs:List Int}{q:Rat}{B:Int}(h:Dn B q){i:Nat}(hi:i < cs.length):Dn B (zDW cs q i):=by
 unfold zDW;rw[zAB cs 0 q i hi];exact Dn.mn (Dn.ps (h.sub (Dn.int _ _))) (Dn.int _ _)
theorem zOJ{M:Nat}{w:Wy}{ws cs:List Int}{q:Rat}{f:Nat->Rat}{B:Int}(hw:w.due ws cs)(hc:Cl cs)(hS:cs.sum < 2^34)(al:Al M ws cs q f w)(hq:Dn B q):∃ E:Int,0 < E/\E < 2^34/\∀ i,i < cs.length->Dn (B * E) (f i):=by
 have hi:=hc.hi;have sm:=hc.sum;have hq':Dn B ((cs.sum:Rat) - q):=(Dn.int B cs.sum).sub hq
 cases w with
 | row=>exact⟨1,by decide,by decide,fun i hi=>by rw[al i hi,QY];exact zKX hq hi⟩
 | back=>exact⟨1,by decide,by decide,fun i hi=>by rw[al i hi,QY];exact(Dn.int _ _).sub (zKX hq' hi)⟩
 | even=>
  obtain⟨t,tl,e⟩:=al;obtain⟨E,e0,e1,e2⟩:=zDR hw hi tl hq;exact⟨E,e0,by omega,fun i hi=>by rw[e i hi];exact e2 i hi⟩
 | lack=>
  obtain⟨t,tl,e⟩:=al;obtain⟨E,e0,e1,e2⟩:=zDR hw hi tl hq';exact⟨E,e0,by omega,fun i hi=>by rw[e i hi];exact(Dn.int _ _).sub (e2 i hi)⟩
 | part=>
  by_cases z:cs.sum=0
  ·exact⟨1,by decide,by decide,fun i hi=>by rw[al i hi,(jB hc hi).2 z];exact Dn.zero _⟩
  ·refine⟨cs.sum,by omega,hS,fun i hi=>?_⟩
   have p:=(jB (q:=q) hc hi).1;rw[<-al i hi] at p;obtain⟨k,hk⟩:=hq;refine⟨k * cs.getD i 0,?_⟩
   rw[QJ,QJ,<-hk];show f i * ((B:Rat) * (cs.sum:Rat))=q * (B:Rat) * cR cs i
   generalize (cs.sum:Rat)=S at *;generalize cR cs i=x at *;generalize f i=y at *;grind
 | half=>
  obtain⟨t,⟨c,tl,e⟩ | ⟨c,tl,e⟩⟩:=al
  ·obtain⟨E,e0,e1,e2⟩:=zDR (fA cs) hi tl (hq.add hq)
   exact⟨E * 2,by omega,by omega,fun i hi=>by rw[e i hi,<-X6];exact zFL (e2 i hi)⟩
  ·obtain⟨E,e0,e1,e2⟩:=zDR (fA cs) hi tl (hq'.add hq')
   exact⟨E * 2,by omega,by omega,fun i hi=>by rw[e i hi,<-X6];exact(Dn.int _ _).sub (zFL (e2 i hi))⟩
theorem Al.mono{M M':Nat}{w:Wy}{ws cs:List Int}{q:Rat}{f:Nat->Rat}(h:Al M ws cs q f w)(l:M<=M'):Al M' ws cs q f w:=by
 cases w with
 | row=>exact h
 | back=>exact h
 | part=>exact h
 | even=>obtain⟨t,tl,e⟩:=h;exact⟨t,tl.mono l,e⟩
 | lack=>obtain⟨t,tl,e⟩:=h;exact⟨t,tl.mono l,e⟩
 | half=>
  obtain⟨t,⟨c,tl,e⟩ | ⟨c,tl,e⟩⟩:=h
  ·exact⟨t,.inl ⟨c,tl.mono l,e⟩⟩
  ·exact⟨t,.inr ⟨c,tl.mono l,e⟩⟩
theorem zPL(q:Rat):Sz (q.num.natAbs+q.den) q:=⟨Qo Yy (Q2 (by decide) (by omega)),Qo Yy (Q2 (by decide) (by omega))⟩
theorem zNM{M:Nat}{w:Wy}{ws cs:List Int}{q:Rat}{f:Nat->Rat}(hw:w.due ws cs)(hc:Cl cs)(q0:0<=q)(q1:q<=(cs.sum:Rat))(al:Al M ws cs q f w):(∀ i,i < cs.length->0<=f i/\f i<=cR cs i)/\((List.range cs.length).map f).sum=q:=by
 have d:=zMR (m:=q.num.natAbs+q.den+M) hw hc ⟨q0,q1,(zPL q).mono (by omega)⟩ (al.mono (by omega))
 exact⟨fun i hi=>⟨(d.bd i hi).1,(d.bd i hi).2.1⟩,d.sum⟩
theorem mF{M M':Nat}{ws cs:List Int}{q q' t t':Rat}(hW:Wt ws cs)(a:Lvl M ws cs q t)(b:Lvl M' ws cs q' t')(h:q=q'){i:Nat}(hi:i < cs.length):dS (cR cs) (cR ws) t i=dS (cR cs) (cR ws) t' i:=by
 have pw:∀ j∈List.range cs.length,0 < cR ws j:=fun j hj=>by
  have:=(hW.at (Qj.mp hj)).1
  unfold cR;exact_mod_cast (show 0 < ws.getD j 0 by omega)
 exact yA (c:=cR cs) (w:=cR ws) pw (by show(evs ws cs t).sum=(evs ws cs t').sum;rw[a.sum,b.sum,h]) i (Qj.mpr hi)
theorem zOI{M M':Nat}{w:Wy}{ws cs:List Int}{q:Rat}{f g:Nat->Rat}(hw:w.due ws cs)(a:Al M ws cs q f w)(b:Al M' ws cs q g w){i:Nat}(hi:i < cs.length):f i=g i:=by
 cases w with
 | row=>rw[a i hi,b i hi]
 | back=>rw[a i hi,b i hi]
 | part=>rw[a i hi,b i hi]
 | even=>
  obtain⟨t,tl,e⟩:=a;obtain⟨t',tl',e'⟩:=b;rw[e i hi,e' i hi,mF hw tl tl' rfl hi]
 | lack=>
  obtain⟨t,tl,e⟩:=a;obtain⟨t',tl',e'⟩:=b;rw[e i hi,e' i hi,mF hw tl tl' rfl hi]
 | half=>
  have W:=fA cs;obtain⟨t,⟨c,tl,e⟩ | ⟨c,tl,e⟩⟩:=a
  ·obtain⟨t',⟨c',tl',e'⟩ | ⟨c',tl',e'⟩⟩:=b
   ·rw[e i hi,e' i hi,mF W tl tl' rfl hi]
   ·exact absurd c' (QP.mpr c)
  ·obtain⟨t',⟨c',tl',e'⟩ | ⟨c',tl',e'⟩⟩:=b
   ·exact absurd c (QP.mpr c')
   ·rw[e i hi,e' i hi,mF W tl tl' rfl hi]
theorem sQ{M M':Nat}{ws cs:List Int}{q q' t t':Rat}(hW:Wt ws cs)(a:Lvl M ws cs q t)(b:Lvl M' ws cs q' t')(h:q<=q'){i:Nat}(hi:i < cs.length):dS (cR cs) (cR ws) t i<=dS (cR cs) (cR ws) t' i:=by
 have pw:∀ j∈List.range cs.length,0 < cR ws j:=fun j hj=>by
  have:=(hW.at (Qj.mp hj)).1
  unfold cR;exact_mod_cast (show 0 < ws.getD j 0 by omega)
 rcases Q6 (a:=t) (b:=t') with g | g
 ·exact mH (pw i (Qj.mpr hi)) g
 ·have le:∀ j∈List.range cs.length,dS (cR cs) (cR ws) t' j<=dS (cR cs) (cR ws) t j:=fun j hj=>mH (pw j hj) g
  have s1:iP (dS (cR cs) (cR ws) t') (List.range cs.length)=q':=b.sum;have s2:iP (dS (cR cs) (cR ws) t) (List.range cs.length)=q:=a.sum;have s3:=qL le;rw[rP le (by rw[s1,s2];rw[s1,s2] at s3;grind) i (Qj.mpr hi)];exact Qd
theorem zNn{M M':Nat}{w:Wy}{ws cs:List Int}{q q':Rat}{f g:Nat->Rat}(hw:w.due ws cs)(hc:Cl cs)(a:Al M ws cs q f w)(b:Al M' ws cs q' g w)(h:q<=q'){i:Nat}(hi:i < cs.length):f i<=g i:=by
 have sm:=hc.sum
 cases w with
 | row=>rw[a i hi,b i hi];exact uU cs 0 i h
 | back=>
  rw[a i hi,b i hi];have:=uU cs 0 (q:=(cs.sum:Rat) - q') (q':=(cs.sum:Rat) - q) i (by grind)
  unfold zDW;grind
 | even=>
  obtain⟨t,tl,e⟩:=a;obtain⟨t',tl',e'⟩:=b;rw[e i hi,e' i hi];exact sQ hw tl tl' h hi
 | lack=>
  obtain⟨t,tl,e⟩:=a;obtain⟨t',tl',e'⟩:=b;rw[e i hi,e' i hi];have:=sQ hw tl' tl (by grind) hi
  grind
 | part=>
  rw[a i hi,b i hi];have c0:0<=cR cs i:=by unfold cR;exact_mod_cast hc.nn _ (Qi (bQ hi))
  obtain⟨p1,p2⟩:=jB (q:=q) hc hi;obtain⟨r1,r2⟩:=jB (q:=q') hc hi;by_cases z:cs.sum=0
  ·rw[p2 z,r2 z];exact Qd
  ·have W:(0:Rat) < (cs.sum:Rat):=by exact_mod_cast (show 0 < cs.sum by omega)
   exact rW W (by rw[p1,r1];exact Q3 h c0)
 | half=>
  have ow:=fA cs;obtain⟨t,⟨c,tl,e⟩ | ⟨c,tl,e⟩⟩:=a
  ·have b1:=(oA ow hc tl.nn hi).2
   obtain⟨t',⟨c',tl',e'⟩ | ⟨c',tl',e'⟩⟩:=b
   ·have:=sQ ow tl tl' (by grind) hi
    rw[e i hi,e' i hi,gW];grind
   ·have b2:=(oA ow hc tl'.nn hi).2
    rw[e i hi,e' i hi,gW];grind
  ·obtain⟨t',⟨c',tl',e'⟩ | ⟨c',tl',e'⟩⟩:=b
   ·exfalso;grind
   ·have:=sQ ow tl' tl (by grind) hi
    rw[e i hi,e' i hi,gW];grind
def Wy.con:Wy->Wy
 | .row=>.back
 | .back=>.row
 | .even=>.lack
 | .lack=>.even
 | .part=>.part
 | .half=>.half
theorem zDO{M:Nat}{ws cs:List Int}{q t:Rat}(hW:Wt ws cs)(hc:Cl cs)(a:Lvl M ws cs q t)(h:q=(cs.sum:Rat)){i:Nat}(hi:i < cs.length):dS (cR cs) (cR ws) t i=cR cs i:=by
 have s:iP (dS (cR cs) (cR ws) t) (List.range cs.length)=q:=a.sum;exact rP (fun j hj=>(oA hW hc a.nn (Qj.mp hj)).2) (by rw[s,h];exact(sG cs).symm) i (Qj.mpr hi)
theorem zOd{M M':Nat}{w:Wy}{ws cs:List Int}{q:Rat}{f g:Nat->Rat}(hw:w.due ws cs)(hc:Cl cs)(hn:0<=q)(hu:q<=(cs.sum:Rat))(a:Al M ws cs q f w)(b:Al M' ws cs ((cs.sum:Rat) - q) g w.con){i:Nat}(hi:i < cs.length):g i=cR cs i - f i:=by
 have sm:=hc.sum;have e0:(cs.sum:Rat) - ((cs.sum:Rat) - q)=q:=by grind
 cases w with
 | row=>
  have b':g i=cR cs i - zDW cs ((cs.sum:Rat) - ((cs.sum:Rat) - q)) i:=b i hi;rw[b',e0,a i hi]
 | back=>
  have b':g i=zDW cs ((cs.sum:Rat) - q) i:=b i hi;rw[b',a i hi];grind
 | even=>
  obtain⟨t,tl,e⟩:=a;obtain⟨t',tl',e'⟩:=b;rw[e i hi,e' i hi,mF hw tl' tl e0 hi]
 | lack=>
  obtain⟨t,tl,e⟩:=a;obtain⟨t',tl',e'⟩:=b;rw[e i hi,e' i hi,mF hw tl' tl rfl hi];grind
 | part=>
  have b':g i=kD cs ((cs.sum:Rat) - q) i:=b i hi;have u:=hu;have n:=hn;obtain⟨p1,p2⟩:=jB (q:=q) hc hi;obtain⟨r1,r2⟩:=jB (q:=(cs.sum:Rat) - q) hc hi;rw[b',a i hi];by_cases z:cs.sum=0
  ·have c0:=pS hc.nn z _ (Qi (bQ hi))
   rw[p2 z,r2 z];unfold cR;rw[c0,show((0:Int):Rat)=0 from rfl];grind
  ·have W:(0:Rat) < (cs.sum:Rat):=by exact_mod_cast (show 0 < cs.sum by omega)
   have e:kD cs ((cs.sum:Rat) - q) i * (cs.sum:Rat)=(cR cs i - kD cs q i) * (cs.sum:Rat):=by rw[r1];grind
   have l1:=rW W (show kD cs ((cs.sum:Rat) - q) i * (cs.sum:Rat)<=(cR cs i - kD cs q i) * (cs.sum:Rat) by rw[e];exact Qd)
   have l2:=rW W (show(cR cs i - kD cs q i) * (cs.sum:Rat)<=kD cs ((cs.sum:Rat) - q) i * (cs.sum:Rat) by rw[e];exact Qd)
   grind
 | half=>
  have ow:=fA cs;obtain⟨t,⟨c,tl,e⟩ | ⟨c,tl,e⟩⟩:=a
  ·obtain⟨t',⟨c',tl',e'⟩ | ⟨c',tl',e'⟩⟩:=b
   ·have f1:=zDO ow hc tl (by grind) hi
    have f2:=zDO ow hc tl' (by grind) hi
    rw[e i hi,e' i hi,f1,f2,gW];grind
   ·have f1:=mF ow tl' tl (by grind) hi
    rw[e i hi,e' i hi,f1]
  ·obtain⟨t',⟨c',tl',e'⟩ | ⟨c',tl',e'⟩⟩:=b
   ·have f1:=mF ow tl' tl rfl hi
    rw[e i hi,e' i hi,f1];grind
   ·exfalso;grind
theorem zMs{w:Wy}{ws cs:List Int}(h:w.due ws cs):w.con.due ws cs:=by cases w<;>exact h
def Lin(f:Rat->Rat)(a b:Rat):Prop:=∀ x,a<=x->x<=b->(f x - f a) * (b - a)=(x - a) * (f b - f a)
def Cn(R:Rat->Rat->Prop):List Rat->Prop
 | a::b::l=>R a b/\Cn R (b::l)
 | _=>True
theorem Cn.imp{R R':Rat->Rat->Prop}(h:∀ a b,R a b->R' a b):∀ {l:List Rat},Cn R l->Cn R' l
 | [],_=>trivial
 | [_],_=>trivial
 | a::b::l,k=>⟨h a b k.1,Cn.imp h k.2⟩
theorem uI{A:List Rat}:∀ {l:List Rat},l.Pairwise (·<=·)->(∀ x∈A,x∈l∨∀ y∈l,x<=y)->Cn (fun s t=>s<=t/\∀ x∈A,x<=s∨t<=x) l
 | [],_,_=>trivial
 | [_],_,_=>trivial
 | a::b::r,h,hA=>by
  obtain⟨h1,h2⟩:=Qq.mp h;obtain⟨h3,h4⟩:=Qq.mp h2;refine⟨⟨h1 b Qb,fun x hx=>?_⟩,uI h2 fun x hx=>?_⟩
  ·rcases hA x hx with h | h
   ·rcases Qe.mp h with rfl | h
    ·exact .inl Qd
    ·rcases Qe.mp h with rfl | h
     ·exact .inr Qd
     ·exact .inr (h3 x h)
   ·exact .inl (h a Qb)
  ·rcases hA x hx with h | h
   ·rcases Qe.mp h with rfl | h
    ·exact .inr h1
    ·exact .inl h
   ·exact .inr fun y hy=>h y (Qc _ hy)
def QQ(ws cs:List Int)(t:Rat):Rat:=iP (dS (cR cs) (cR ws) t) (List.range cs.length)
def lv(ws cs:List Int)(i:Nat):Rat:=cR cs i / cR ws i
theorem Wt.pos{ws cs:List Int}(h:Wt ws cs){i:Nat}(hi:i < cs.length):0 < cR ws i:=by
 have:=(h.at hi).1
 unfold cR;exact_mod_cast (show 0 < ws.getD i 0 by omega)
theorem xP{ws cs:List Int}(h:Wt ws cs){i:Nat}(hi:i < cs.length):cR ws i * lv ws cs i=cR cs i:=by
 have:=h.pos hi
 unfold lv;grind
theorem zFO{ws cs:List Int}(h:Wt ws cs){i:Nat}(hi:i < cs.length){t:Rat}(l:lv ws cs i<=t):dS (cR cs) (cR ws) t i=cR cs i:=by
 have p:=h.pos hi;have e:=xP h hi;have:=VE l (Qf p)
 unfold dS mn;grind
theorem zFd{ws cs:List Int}(h:Wt ws cs){i:Nat}(hi:i < cs.length){t:Rat}(l:t<=lv ws cs i):dS (cR cs) (cR ws) t i=cR ws i * t:=by
 have p:=h.pos hi;have e:=xP h hi;have:=VE l (Qf p)
 unfold dS mn;grind
theorem zHx{ws cs:List Int}(h:Wt ws cs)(hc:Cl cs){i:Nat}(hi:i < cs.length):0<=lv ws cs i:=by
 have p:=h.pos hi;have c:=(zGS hc hi).1;have e:=xP h hi;rcases Q6 (a:=0) (b:=lv ws cs i) with z | z
 ·exact z
 ·have:=VE z (Qf p)
  have z2:cR cs i=0:=by grind
  unfold lv;rw[z2];grind
def sl(ws cs:List Int)(s:Rat)(i:Nat):Rat:=if lv ws cs i<=s then 0 else cR ws i
theorem zED{f g:Nat->Rat}:∀ {l:List Nat},iP (fun i=>f i - g i) l=iP f l - iP g l
 | []=>by rw[iM,iM,iM];grind
 | a::l=>by rw[bG,bG,bG,zED];grind
def zNI(ws cs:List Int)(s t:Rat):Prop:=∀ i,i < cs.length->lv ws cs i<=s∨t<=lv ws cs i
theorem zAm{ws cs:List Int}(h:Wt ws cs){s t u:Rat}(n:zNI ws cs s t)(su:s<=u)(ut:u<=t){i:Nat}(hi:i < cs.length):dS (cR cs) (cR ws) u i - dS (cR cs) (cR ws) s i=sl ws cs s i * (u - s):=by
 unfold sl;by_cases z:lv ws cs i<=s
 ·rw[zFO h hi z,zFO h hi (Qr z su),if_pos z];grind
 ·rcases n i hi with k | k
  ·exact absurd k z
  ·rw[zFd h hi (Qr ut k),zFd h hi (Qr su (Qr ut k)),if_neg z];grind
theorem zCb{ws cs:List Int}(h:Wt ws cs){s t u:Rat}(n:zNI ws cs s t)(su:s<=u)(ut:u<=t):QQ ws cs u - QQ ws cs s=iP (sl ws cs s) (List.range cs.length) * (u - s):=by
 unfold QQ;rw[<-zED,eK (g:=fun i=>sl ws cs s i * (u - s)) fun i hi=>zAm h n su ut (Qj.mp hi)];rw[dN];grind
theorem kP{ws cs:List Int}(h:Wt ws cs){s t:Rat}(l:s<=t):QQ ws cs s<=QQ ws cs t:=qL fun i hi=>mH (h.pos (Qj.mp hi)) l
theorem zQd{ws cs:List Int}(h:Wt ws cs){s t:Rat}(e:QQ ws cs s=QQ ws cs t){i:Nat}(hi:i < cs.length):dS (cR cs) (cR ws) s i=dS (cR cs) (cR ws) t i:=yA (fun i hi=>h.pos (Qj.mp hi)) e i (Qj.mpr hi)
theorem zOH{ws cs:List Int}(h:Wt ws cs){s t:Rat}(st:s<=t)(n:zNI ws cs s t){i:Nat}(hi:i < cs.length){f:Rat->Rat}(hf:∀ x,QQ ws cs s<=x->x<=QQ ws cs t->∃ u,QQ ws cs u=x/\f x=dS (cR cs) (cR ws) u i):Lin f (QQ ws cs s) (QQ ws cs t):=by
 have ab:=kP h st
 have at':∀ v,s<=v->v<=t->f (QQ ws cs v)=dS (cR cs) (cR ws) v i:=fun v h1 h2=>by
  obtain⟨u,e1,e2⟩:=hf _ (kP h h1) (kP h h2);rw[e2,zQd h e1 hi]
 have fa:=at' s Qd st;have fb:=at' t st Qd;intro x h1 h2;obtain⟨u,e1,e2⟩:=hf x h1 h2;rcases Q6 (a:=u) (b:=s) with z | z
 ·have q:=kP h z
  have ex:x=QQ ws cs s:=by grind
  subst ex;grind
 rcases Q6 (a:=t) (b:=u) with z' | z'
 ·have q:=kP h z'
  have ex:x=QQ ws cs t:=by grind
  subst ex;grind
 have d1:=zCb h n z z';have d2:=zCb h n st Qd;have g1:=zAm h n z z' hi;have g2:=zAm h n st Qd hi;rw[e1] at d1;rw[e2,fa,fb,g1,g2,d1,d2];grind
theorem zIt{ws cs:List Int}(h:Wt ws cs){q:Rat}:∀ {l:List Rat} {s:Rat},Cn (fun s t=>s<=t/\zNI ws cs s t) (s::l)->QQ ws cs s<=q->q<=QQ ws cs ((s::l).getLast (by simp))->∃ u,s<=u/\QQ ws cs u=q
 | [],s,_,h1,h2=>⟨s,Qd,by
  have h2':q<=QQ ws cs s:=h2
  grind⟩
 | t::l,s,hc,h1,h2=>by
  obtain⟨⟨st,n⟩,hc'⟩:=hc;rcases Q6 (a:=QQ ws cs t) (b:=q) with z | z
  ·obtain⟨u,u1,u2⟩:=zIt h hc' z (by simpa using h2)
   exact⟨u,Qr st u1,u2⟩
  ·by_cases e:QQ ws cs s=QQ ws cs t
   ·exact⟨s,Qd,by grind⟩
   have d2:=zCb h n st Qd;generalize iP (sl ws cs s) (List.range cs.length)=W at d2;have lt:QQ ws cs s < QQ ws cs t:=by have:=kP h st;grind
   have p:0 < QQ ws cs t - QQ ws cs s:=by grind
   have nz:QQ ws cs t - QQ ws cs s≠0:=by grind
   have lam:0<=(q - QQ ws cs s) / (QQ ws cs t - QQ ws cs s)/\(q - QQ ws cs s) / (QQ ws cs t - QQ ws cs s)<=1:=by
    refine⟨rW p ?_,rW p ?_⟩
    ·rw[Q7 nz];grind
    ·rw[Q7 nz];grind
   have le:(q - QQ ws cs s) / (QQ ws cs t - QQ ws cs s) * (QQ ws cs t - QQ ws cs s)=q - QQ ws cs s:=Q7 nz;generalize (q - QQ ws cs s) / (QQ ws cs t - QQ ws cs s)=k at lam le;have ts:0<=t - s:=by grind
   have m1:=Xr lam.1 ts;have m2:=Q3 lam.2 ts;refine⟨s+k * (t - s),by grind,?_⟩
   have d1:=zCb h n (u:=s+k * (t - s)) (by grind) (by grind)
   have d2':=zCb h n st Qd;grind
theorem zGO:∀(n:Nat)(g:Nat->Rat),∃ M,∀ i,i < n->Sz M (g i)
 | 0,_=>⟨0,fun i h=>by omega⟩
 | n+1,g=>by
  obtain⟨M,h⟩:=zGO n g;refine⟨M+((g n).num.natAbs+(g n).den),fun i hi=>?_⟩
  by_cases z:i=n
  ·rw[z];exact(zPL (g n)).mono (by omega)
  ·exact(h i (by omega)).mono (by omega)
theorem zQo{ws cs:List Int}(h:Wt ws cs)(hc:Cl cs){q:Rat}(q0:0<=q)(q1:q<=(cs.sum:Rat)):∃ u,0<=u/\QQ ws cs u=q:=by
 generalize hA:(List.range cs.length).map (lv ws cs)=A;have pm:(A.mergeSort fun a b=>decide (a<=b)).Perm A:=Yu A _
 have so:(A.mergeSort fun a b=>decide (a<=b)).Pairwise (·<=·):=by
  have:=Yv (le:=fun a b:Rat=>decide (a<=b)) (fun a b c h1 h2=>by
   have h1':=of_decide_eq_true h1;have h2':=of_decide_eq_true h2
   exact decide_eq_true (Qr h1' h2')) (fun a b=>by
   rcases Q6 (a:=a) (b:=b) with z | z
   ·simp[z]
   ·simp[z]) A
  exact this.imp fun h=>of_decide_eq_true h
 generalize A.mergeSort (fun a b=>decide (a<=b))=L at pm so
 have nn:∀ x∈L,0<=x:=fun x hx=>by
  have hx':=pm.mem_iff.mp hx;rw[<-hA] at hx';obtain⟨i,hi,rfl⟩:=Qp.mp hx';exact zHx h hc (Qj.mp hi)
 have so':(0::L).Pairwise (·<=·):=Qq.mpr ⟨nn,so⟩;have cn:=uI (A:=A) so' fun x hx=>.inl (Qc _ (pm.mem_iff.mpr hx))
 have cn':Cn (fun s t=>s<=t/\zNI ws cs s t) (0::L):=cn.imp fun a b hab=>⟨hab.1,fun i hi=>hab.2 _ (by rw[<-hA];exact Qp.mpr ⟨i,Qj.mpr hi,rfl⟩)⟩
 have z0:QQ ws cs 0=0:=by
  unfold QQ;rw[eK (g:=fun i=>cR ws i * 0) fun i hi=>zFd h (Qj.mp hi) (zHx h hc (Qj.mp hi)),dN];grind
 have zl:QQ ws cs ((0::L).getLast (by simp))=(cs.sum:Rat):=by
  unfold QQ;rw[eK (g:=cR cs) fun i hi=>zFO h (Qj.mp hi) ?_]
  ·exact sG cs
  ·have m:lv ws cs i∈L:=pm.mem_iff.mpr (by rw[<-hA];exact Qp.mpr ⟨i,hi,rfl⟩)
   have key:∀ {l:List Rat} (ne:l≠[]),l.Pairwise (·<=·)->∀ x∈l,x<=l.getLast ne:=by
    intro l
    induction l with
    | nil=>intro ne;exact absurd rfl ne
    | cons a r ih=>
     intro ne hp x hx;obtain⟨p1,p2⟩:=Qq.mp hp
     cases r with
     | nil=>rw[Qu.mp hx];exact Qd
     | cons b r=>
      rw[List.getLast_cons (by simp)];rcases Qe.mp hx with rfl | hx
      ·exact Qr (p1 b Qb) (ih (by simp) p2 b Qb)
      ·exact ih (by simp) p2 x hx
   exact key (by simp) so' _ (Qc _ m)
 exact zIt h cn' (by rw[z0];exact q0) (by rw[zl];exact q1)
theorem zEj{ws cs:List Int}(h:Wt ws cs)(hc:Cl cs){q:Rat}(q0:0<=q)(q1:q<=(cs.sum:Rat)):∃ M t,Lvl M ws cs q t:=by
 obtain⟨u,u0,e⟩:=zQo h hc q0 q1;obtain⟨M,hM⟩:=zGO cs.length (dS (cR cs) (cR ws) u);exact⟨M,u,u0,e,hM⟩
theorem zNQ{w:Wy}{ws cs:List Int}(hw:w.due ws cs)(hc:Cl cs){q:Rat}(q0:0<=q)(q1:q<=(cs.sum:Rat)):∃ f M,Al M ws cs q f w:=by
 cases w with
 | row=>exact⟨_,0,fun i _=>rfl⟩
 | back=>exact⟨_,0,fun i _=>rfl⟩
 | part=>exact⟨_,0,fun i _=>rfl⟩
 | even=>
  obtain⟨M,t,tl⟩:=zEj hw hc q0 q1;exact⟨_,M,t,tl,fun i _=>rfl⟩
 | lack=>
  obtain⟨M,t,tl⟩:=zEj hw hc (q:=(cs.sum:Rat) - q) (by grind) (by grind)
  exact⟨_,M,t,tl,fun i _=>rfl⟩
 | half=>
  by_cases z:(cs.sum:Rat) < q+q
  ·obtain⟨M,t,tl⟩:=zEj (fA cs) hc (q:=((cs.sum:Rat) - q)+((cs.sum:Rat) - q)) (by grind) (by grind)
   exact⟨_,M,t,.inr ⟨z,tl,fun i _=>rfl⟩⟩
  ·have z':=QP.mp z
   obtain⟨M,t,tl⟩:=zEj (fA cs) hc (q:=q+q) (by grind) z'
   exact⟨_,M,t,.inl ⟨z',tl,fun i _=>rfl⟩⟩
open Classical in
def FF(w:Wy)(ws cs:List Int)(q:Rat):Nat->Rat:=if h:∃ f M,Al M ws cs q f w then Classical.choose h else fun _=>0
theorem wR{w:Wy}{ws cs:List Int}(hw:w.due ws cs)(hc:Cl cs){q:Rat}(q0:0<=q)(q1:q<=(cs.sum:Rat)):∃ M,Al M ws cs q (FF w ws cs q) w:=by
 unfold FF;rw[dif_pos (zNQ hw hc q0 q1)];exact Xt (zNQ hw hc q0 q1)
theorem zCe{M:Nat}{w:Wy}{ws cs:List Int}(hw:w.due ws cs)(hc:Cl cs){q:Rat}{f:Nat->Rat}(q0:0<=q)(q1:q<=(cs.sum:Rat))(a:Al M ws cs q f w){i:Nat}(hi:i < cs.length):f i=FF w ws cs q i:=by
 obtain⟨M',b⟩:=wR hw hc q0 q1;exact zOI hw a b hi
theorem zJV{w:Wy}{ws cs:List Int}(hw:w.due ws cs)(hc:Cl cs){q:Rat}(q0:0<=q)(q1:q<=(cs.sum:Rat)):(∀ i,i < cs.length->0<=FF w ws cs q i/\FF w ws cs q i<=cR cs i)/\((List.range cs.length).map (FF w ws cs q)).sum=q:=by
 obtain⟨M,b⟩:=wR hw hc q0 q1;exact zNM hw hc q0 q1 b
theorem zLF{w:Wy}{ws cs:List Int}(hw:w.due ws cs)(hc:Cl cs){q q':Rat}(q0:0<=q)(l:q<=q')(q1:q'<=(cs.sum:Rat)){i:Nat}(hi:i < cs.length):FF w ws cs q i<=FF w ws cs q' i:=by
 obtain⟨M,a⟩:=wR hw hc q0 (Qr l q1);obtain⟨M',b⟩:=wR hw hc (Qr q0 l) q1;exact zNn hw hc a b l hi
theorem zKW{w:Wy}{ws cs:List Int}(hw:w.due ws cs)(hc:Cl cs){q:Rat}(q0:0<=q)(q1:q<=(cs.sum:Rat)){i:Nat}(hi:i < cs.length):FF w.con ws cs ((cs.sum:Rat) - q) i=cR cs i - FF w ws cs q i:=by
 obtain⟨M,a⟩:=wR hw hc q0 q1;obtain⟨M',b⟩:=wR (zMs hw) hc (q:=(cs.sum:Rat) - q) (by grind) (by grind)
 exact zOd hw hc q0 q1 a b hi
theorem zAJ{f:Nat->Rat}:∀ {l:List Nat},(∀ i∈l,0<=f i)->iP f l=0->∀ i∈l,f i=0
 | [],_,_,i,h=>by cases h
 | a::l,hn,e,i,h=>by
  have p:0<=iP f l:=by
   have:∀ {l:List Nat},(∀ i∈l,0<=f i)->0<=iP f l:=by
    intro l
    induction l with
    | nil=>intro _;rw[iM];exact Qd
    | cons b l ih=>intro hl;rw[bG];have:=hl b Qb;have:=ih fun x hx=>hl x (Qc _ hx);grind
   exact this fun x hx=>hn x (Qc _ hx)
  have a0:=hn a Qb;rw[bG] at e;rcases Qe.mp h with rfl | h
  ·grind
  ·exact zAJ (fun x hx=>hn x (Qc _ hx)) (by grind) i h
theorem zIr{w:Wy}{ws cs:List Int}(hw:w.due ws cs)(hc:Cl cs){i:Nat}(hi:i < cs.length):FF w ws cs 0 i=0:=by
 have s0:(0:Rat)<=(cs.sum:Rat):=by exact_mod_cast hc.sum.1
 obtain⟨b,s⟩:=zJV hw hc Qd s0;exact zAJ (fun i hi=>(b i (Qj.mp hi)).1) s i (Qj.mpr hi)
theorem zDB{w:Wy}{ws cs:List Int}(hw:w.due ws cs)(hc:Cl cs){i:Nat}(hi:i < cs.length):FF w ws cs (cs.sum:Rat) i=cR cs i:=by
 have s0:(0:Rat)<=(cs.sum:Rat):=by exact_mod_cast hc.sum.1
 obtain⟨b,s⟩:=zJV hw hc s0 Qd
 have e:=rP (f:=FF w ws cs (cs.sum:Rat)) (g:=cR cs) (l:=List.range cs.length) (fun i hi=>(b i (Qj.mp hi)).2) (by
  show((List.range cs.length).map _).sum=_
  rw[s]
  exact(sG cs).symm)
 exact e i (Qj.mpr hi)
theorem yV:∀ {cs:List Int} {i j:Nat},(∀ c∈cs,0<=c)->i < j->j<=cs.length->(cs.take i).sum+cs.getD i 0<=(cs.take j).sum/\0<=(cs.take i).sum
 | [],i,j,_,h,h'=>by simp at h';omega
 | c::r,i,0,_,h,_=>by omega
 | c::r,0,j+1,hn,_,_=>by
  have hr:∀ l:List Int,(∀ c∈l,0<=c)->0<=l.sum:=by
   intro l
   induction l with
   | nil=>intro _;decide
   | cons a l ih=>intro hl;rw[QE];have:=hl a Qb;have:=ih fun x hx=>hl x (Qc _ hx);omega
  have:=hr (r.take j) fun x hx=>hn x (Qc _ (V6 hx))
  rw[Xs,QE];simp
  omega
 | c::r,i+1,j+1,hn,h,h'=>by
  have ih:=yV (cs:=r) (i:=i) (j:=j) (fun x hx=>hn x (Qc _ hx)) (by omega) (by simpa using h')
  have:=hn c Qb
  rw[Xs,QE,Xs,QE];show c+_+r.getD i 0<=_/\_
  omega
def Jt(w:Wy)(ws cs:List Int)(a b:Rat):Prop:=0<=a/\a<=b/\b<=(cs.sum:Rat)/\∀ i,i < cs.length->Lin (fun x=>FF w ws cs x i) a b
theorem Lin.const{f:Rat->Rat}{a b k:Rat}(hab:a<=b)(h:∀ x,a<=x->x<=b->f x=k):Lin f a b:=fun x h1 h2=>by
 rw[h x h1 h2,h a Qd hab,h b hab Qd];grind
theorem Lin.line{f:Rat->Rat}{a b m k:Rat}(hab:a<=b)(h:∀ x,a<=x->x<=b->f x=m * x+k):Lin f a b:=fun x h1 h2=>by
 rw[h x h1 h2,h a Qd hab,h b hab Qd];grind
def rj:List Int->Int->List Rat
 | [],a=>[(a:Rat)]
 | c::r,a=>(a:Rat)::rj r (a+c)
theorem zDl(r:List Int)(a:Int):∃ t,rj r a=(a:Rat)::t:=by cases r<;>exact⟨_,rfl⟩
theorem zHm{cs:List Int}(hc:Cl cs):∀(post pre:List Int),cs=pre++post->Cn (Jt .row [] cs) (rj post pre.sum)
 | [],_,_=>trivial
 | c::r,pre,e=>by
  have ih:=zHm hc r (pre++[c]) (by rw[e];simp)
  rw[Vt,show([c]:List Int).sum=c by simp] at ih;obtain⟨t,et⟩:=zDl r (pre.sum+c);rw[rj,et];rw[et] at ih;refine⟨?_,ih⟩
  have hk:pre.length < cs.length:=by rw[e];simp
  have tk:cs.take pre.length=pre:=by rw[e];exact List.take_left
  have ck:cs.getD pre.length 0=c:=by rw[e,Qy,QU (Qh _)];simp
  have c0:0<=c:=hc.nn c (by rw[e];simp)
  have p0:0<=pre.sum:=by
   have:∀ l:List Int,(∀ c∈l,0<=c)->0<=l.sum:=by
    intro l
    induction l with
    | nil=>intro _;decide
    | cons a l ih=>intro hl;rw[QE];have:=hl a Qb;have:=ih fun x hx=>hl x (Qc _ hx);omega
   exact this pre fun x hx=>hc.nn x (by rw[e];exact Vw _ hx)
  have r0:0<=r.sum:=by
   have:∀ l:List Int,(∀ c∈l,0<=c)->0<=l.sum:=by
    intro l
    induction l with
    | nil=>intro _;decide
    | cons a l ih=>intro hl;rw[QE];have:=hl a Qb;have:=ih fun x hx=>hl x (Qc _ hx);omega
   exact this r fun x hx=>hc.nn x (by rw[e];exact Qz _ (Qc _ hx))
  have se:cs.sum=pre.sum+c+r.sum:=by rw[e,Vt,QE];omega
  have ab:(pre.sum:Rat)<=((pre.sum+c:Int):Rat):=Vu.mpr (by omega)
  have bS:((pre.sum+c:Int):Rat)<=(cs.sum:Rat):=Vu.mpr (by omega)
  have a0:(0:Rat)<=(pre.sum:Rat):=by exact_mod_cast p0
  refine⟨a0,ab,bS,fun i hi=>?_⟩
  have fx:∀ x,(pre.sum:Rat)<=x->x<=((pre.sum+c:Int):Rat)->FF .row [] cs x i=mn (ps0 (x - ((0+(cs.take i).sum:Int):Rat))) (cR cs i):=fun x h1 h2=>by
   rw[<-zCe (M:=0) (w:=.row) (ws:=[]) (f:=zDW cs x) rfl hc (Qr a0 h1) (Qr h2 bS) (fun i _=>rfl) hi];exact zAB cs 0 x i hi
  have ci:=(zGS hc hi).1;rcases Xl i pre.length with z | z | z
  ·have tu:=(yV hc.nn z (Vn hk)).1
   rw[tk] at tu;refine Lin.const ab (k:=cR cs i) fun x h1 h2=>?_
   rw[fx x h1 h2]
   have tu':((0+(cs.take i).sum:Int):Rat)+cR cs i<=(pre.sum:Rat):=by
    unfold cR;rw[<-QX];exact Vu.mpr (by omega)
   unfold mn ps0;grind
  ·subst z
   refine Lin.line ab (m:=1) (k:=-(pre.sum:Rat)) fun x h1 h2=>?_
   rw[fx x h1 h2,tk,Int.zero_add];have:cR cs pre.length=(c:Rat):=by unfold cR;rw[ck]
   rw[this];rw[QX] at h2;unfold mn ps0;grind
  ·have tu:=(yV hc.nn z (Vn hi)).1
   rw[tk,ck] at tu;refine Lin.const ab (k:=0) fun x h1 h2=>?_
   rw[fx x h1 h2];have tu':((pre.sum+c:Int):Rat)<=((0+(cs.take i).sum:Int):Rat):=Vu.mpr (by omega)
   unfold mn ps0;grind
theorem zPo{cs:List Int}(hc:Cl cs):Cn (Jt .row [] cs) (rj cs 0):=zHm hc cs [] rfl
theorem zNt{cs:List Int}(hc:Cl cs):Cn (Jt .part [] cs) [0,(cs.sum:Rat)]:=by
 have s0:(0:Rat)<=(cs.sum:Rat):=by exact_mod_cast hc.sum.1
 refine⟨⟨Qd,s0,Qd,fun i hi=>?_⟩,trivial⟩
 have fx:∀ x,0<=x->x<=(cs.sum:Rat)->FF .part [] cs x i * (cs.sum:Rat)=x * cR cs i:=fun x h1 h2=>by
  rw[<-zCe (M:=0) (w:=.part) (ws:=[]) (f:=kD cs x) rfl hc h1 h2 (fun i _=>rfl) hi];exact(jB hc hi).1
 intro x h1 h2;have e0:=zIr (w:=.part) (ws:=[]) rfl hc hi;have e1:=fx x h1 h2;have e2:=zDB (w:=.part) (ws:=[]) rfl hc hi;show(FF .part [] cs x i - FF .part [] cs 0 i) * _=_ * (FF .part [] cs (cs.sum:Rat) i - FF .part [] cs 0 i)
 rw[e0,e2];generalize FF Wy.part [] cs x i=y at *;generalize (cs.sum:Rat)=S at *;generalize cR cs i=c at *;grind
theorem zHP{R R':Rat->Rat->Prop}{g:Rat->Rat}(h:∀ a b,R a b->R' (g a) (g b)):∀ {l:List Rat},Cn R l->Cn R' (l.map g)
 | [],_=>trivial
 | [_],_=>trivial
 | a::b::l,k=>⟨h a b k.1,zHP h k.2⟩
theorem zGr{R:Rat->Rat->Prop}:∀ {l l':List Rat},Cn R l->Cn R l'->(∀ x y,l.getLast?=some x->l'.head?=some y->R x y)->Cn R (l++l')
 | [],_,_,h,_=>h
 | [a],[],_,_,_=>trivial
 | [a],b::l',_,h,k=>⟨k a b rfl rfl,h⟩
 | a::b::l,l',h,h',k=>⟨h.1,zGr h.2 h' fun x y hx hy=>k x y (by simpa using hx) hy⟩
theorem zHp{R R':Rat->Rat->Prop}{g:Rat->Rat}(h:∀ a b,R a b->R' (g b) (g a)):∀ {l:List Rat},Cn R l->Cn R' (l.reverse.map g)
 | [],_=>trivial
 | [_],_=>trivial
 | a::b::l,k=>by
  have ih:=zHp (l:=b::l) h k.2;rw[List.reverse_cons,QG];refine zGr ih trivial fun x y hx hy=>?_
  rw[VC,X9] at hx;cases hx;cases hy;exact h a b k.1
theorem Lin.mir{f g:Rat->Rat}{a b S c:Rat}(hab:a<=b)(h:Lin f a b)(hg:∀ x,a<=x->x<=b->g (S - x)=c - f x):Lin g (S - b) (S - a):=fun x h1 h2=>by
 have k:=h (S - x) (by grind) (by grind)
 have e:=hg (S - x) (by grind) (by grind)
 rw[show S - (S - x)=x by grind] at e;rw[e,hg a Qd hab,hg b hab Qd];grind
theorem zKM{w:Wy}{ws cs:List Int}(hw:w.due ws cs)(hc:Cl cs){a b:Rat}(h:Jt w ws cs a b):Jt w.con ws cs ((cs.sum:Rat) - b) ((cs.sum:Rat) - a):=by
 obtain⟨h1,h2,h3,h4⟩:=h;refine⟨by grind,by grind,by grind,fun i hi=>?_⟩
 exact Lin.mir h2 (h4 i hi) (c:=cR cs i) fun x x1 x2=>zKW hw hc (Qr h1 x1) (Qr x2 h3) hi
theorem zQp{ws cs:List Int}(h:Wt ws cs)(hc:Cl cs){s t:Rat}(s0:0<=s)(st:s<=t)(n:zNI ws cs s t):Jt .even ws cs (QQ ws cs s) (QQ ws cs t):=by
 have g0:∀ i,i < cs.length->∀ t,0<=t->0<=dS (cR cs) (cR ws) t i/\dS (cR cs) (cR ws) t i<=cR cs i:=fun i hi t t0=>oA h hc t0 hi
 have q0:0<=QQ ws cs s:=by
  have:iP (fun i=>cR ws i * 0) (List.range cs.length)<=QQ ws cs s:=qL fun i hi=>by
   have:=(g0 i (Qj.mp hi) s s0).1
   grind
  rw[dN] at this;grind
 have q1:QQ ws cs t<=(cs.sum:Rat):=by
  have:QQ ws cs t<=iP (cR cs) (List.range cs.length):=qL fun i hi=>(g0 i (Qj.mp hi) t (Qr s0 st)).2
  have e:iP (cR cs) (List.range cs.length)=(cs.sum:Rat):=sG cs;rw[e] at this;exact this
 refine⟨q0,kP h st,q1,fun i hi=>zOH h st n hi fun x x1 x2=>?_⟩
 obtain⟨M,u,tl,e⟩:=wR (w:=.even) h hc (Qr q0 x1) (Qr x2 q1);exact⟨u,tl.sum,e i hi⟩
theorem zNj{ws cs:List Int}(h:Wt ws cs)(hc:Cl cs){ls:List Rat}(so:ls.Pairwise (·<=·))(hm:∀ i,i < cs.length->lv ws cs i∈ls)(h0:∀ x∈ls,0<=x):Cn (Jt .even ws cs) ((0::ls).map (QQ ws cs)):=by
 have so':(0::ls).Pairwise (·<=·):=Qq.mpr ⟨h0,so⟩;have cn:=uI (A:=0::ls) so' fun x hx=>.inl hx
 have pos:∀ {l:List Rat},(∀ x∈l,0<=x)->Cn (fun s t=>s<=t/\∀ x∈0::ls,x<=s∨t<=x) l->Cn (fun s t=>0<=s/\s<=t/\∀ x∈0::ls,x<=s∨t<=x) l:=by
  intro l
  induction l with
  | nil=>intro _ _;trivial
  | cons a r ih=>
   intro hp k
   cases r with
   | nil=>trivial
   | cons b r=>exact⟨⟨hp a Qb,k.1⟩,ih (fun x hx=>hp x (Qc _ hx)) k.2⟩
 refine zHP (fun a b hab=>?_) (pos (fun x hx=>?_) cn)
 ·exact zQp h hc hab.1 hab.2.1 fun i hi=>hab.2.2 _ (Qc _ (hm i hi))
 ·rcases Qe.mp hx with rfl | hx
  ·exact Qd
  ·exact h0 x hx
theorem uQ{cs:List Int}(hc:Cl cs){q:Rat}(q0:0<=q)(q1:q+q<=(cs.sum:Rat)){i:Nat}(hi:i < cs.length):FF .half [] cs q i=FF .even (ones cs) cs (q+q) i * hf:=by
 have s0:(0:Rat)<=(cs.sum:Rat):=by exact_mod_cast hc.sum.1
 obtain⟨M,t,tl,e⟩:=wR (w:=.even) (ws:=ones cs) (fA cs) hc (q:=q+q) (by grind) q1
 rw[<-zCe (M:=M) (w:=.half) (ws:=[]) (f:=fun i=>dS (cR cs) (cR (ones cs)) t i * hf) rfl hc q0 (by grind) ⟨t,.inl ⟨q1,tl,fun i _=>rfl⟩⟩ hi,e i hi]
theorem zMq{cs:List Int}(hc:Cl cs){a b:Rat}(h:Jt .even (ones cs) cs a b):Jt .half [] cs (a * hf) (b * hf):=by
 obtain⟨h1,h2,h3,h4⟩:=h;have tw:∀ x:Rat,x * hf+x * hf=x:=fun x=>by rw[gW];grind
 have ta:=tw a;have tb:=tw b;have p:(0:Rat) < hf:=by rw[gW];grind
 have l1:=Q3 h1 (Qf p);have l2:=Q3 h2 (Qf p);refine⟨by grind,l2,by grind,fun i hi x x1 x2=>?_⟩
 have fx:∀ y,a * hf<=y->y<=b * hf->FF .half [] cs y i=FF .even (ones cs) cs (y+y) i * hf:=fun y y1 y2=>uQ hc (by grind) (by grind) hi
 show(FF .half [] cs x i - FF .half [] cs (a * hf) i) * _=_ * (FF .half [] cs (b * hf) i - FF .half [] cs (a * hf) i)
 rw[fx x x1 x2,fx (a * hf) Qd l2,fx (b * hf) l2 Qd,ta,tb];have k:=h4 i hi (x+x) (by grind) (by grind)
 have k':(FF .even (ones cs) cs (x+x) i - FF .even (ones cs) cs a i) * (b - a)=(x+x - a) * (FF .even (ones cs) cs b i - FF .even (ones cs) cs a i):=k;rw[show b * hf - a * hf=(b - a) * hf by grind];have hh:hf * (1+1)=1:=by rw[gW];grind
 generalize FF Wy.even (ones cs) cs (x+x) i=u at *;generalize FF Wy.even (ones cs) cs a i=v at *;generalize FF Wy.even (ones cs) cs b i=z at *;generalize hf=H at *;grind
structure JL (w:Wy) (ws cs:List Int) (l:List Rat):Prop where
 cn:Cn (Jt w ws cs) l
 hd:l.head?=some 0
 la:l.getLast?=some (cs.sum:Rat)
def ddR:Rat->List Rat->List Rat
 | _,[]=>[]
 | k,x::l=>if k < x then x::ddR x l else ddR k l
theorem zNo{w:Wy}{ws cs:List Int}:∀ {l:List Rat} {k:Rat},Cn (Jt w ws cs) (k::l)->Cn (fun a b=>a < b/\Jt w ws cs a b) (k::ddR k l)/\(k::ddR k l).getLast?=(k::l).getLast?
 | [],k,_=>⟨trivial,rfl⟩
 | x::l,k,h=>by
  rw[ddR];by_cases z:k < x
  ·rw[if_pos z]
   obtain⟨i1,i2⟩:=zNo h.2;refine⟨⟨⟨z,h.1⟩,i1⟩,?_⟩
   rw[V7,V7];exact i2
  ·rw[if_neg z]
   have e:k=x:=by have:=h.1.2.1;grind
   subst e;obtain⟨i1,i2⟩:=zNo h.2;refine⟨i1,?_⟩
   rw[i2,V7]
theorem zGc:∀(l:List Rat)(k:Rat),(ddR k l).Sublist l
 | [],_=>List.Sublist.refl _
 | x::l,k=>by
  rw[ddR];split
  ·exact(zGc l x).cons₂ x
  ·exact(zGc l k).cons x
structure JS (w:Wy) (ws cs:List Int) (l:List Rat):Prop where
 cn:Cn (fun a b=>a < b/\Jt w ws cs a b) l
 hd:l.head?=some 0
 la:l.getLast?=some (cs.sum:Rat)
theorem JL.js{w:Wy}{ws cs:List Int}{l:List Rat}(h:JL w ws cs (0::l)):JS w ws cs (0::ddR 0 l):=by
 obtain⟨a,b⟩:=zNo h.cn;exact⟨a,rfl,by rw[b];exact h.la⟩
theorem zLC{R:Rat->Rat->Prop}:∀ {l:List Rat},Cn (fun a b=>a < b/\R a b) l->l.Pairwise (· < ·)
 | [],_=>.nil
 | [a],_=>Xu ..
 | a::b::l,h=>by
  have ih:=zLC h.2;refine Qq.mpr ⟨fun x hx=>?_,ih⟩
  rcases Qe.mp hx with rfl | hx
  ·exact h.1.1
  ·have z1:=h.1.1
   have z2:=(Qq.mp ih).1 x hx;grind
theorem zOk{R:Rat->Rat->Prop}:∀ {l:List Rat} {k:Nat} {a b:Rat},Cn R l->l[k]?=some a->l[k+1]?=some b->R a b
 | x::y::l,0,a,b,h,e1,e2=>by cases e1;cases e2;exact h.1
 | x::y::l,k+1,a,b,h,e1,e2=>zOk (k:=k) h.2 (by simpa using e1) (by simpa using e2)
 | [x],0,a,b,h,e1,e2=>by simp at e2
 | [x],k+1,a,b,h,e1,e2=>by simp at e2
 | [],k,a,b,h,e1,e2=>by simp at e1
def jpt(w:Wy)(ws cs:List Int)(l:List Rat)(i:Nat):List Pt:=l.map fun q=>(q,FF w ws cs q i)
theorem JS.bd{w:Wy}{ws cs:List Int}{l:List Rat}(h:JS w ws cs l):∀ x∈l,0<=x/\x<=(cs.sum:Rat):=by
 have p:=zLC h.cn;intro x hx;obtain⟨hd,la⟩:=(⟨h.hd,h.la⟩:_/\_)
 cases l with
 | nil=>cases hx
 | cons a r=>
  cases hd;refine⟨?_,?_⟩
  ·rcases Qe.mp hx with rfl | hx
   ·exact Qd
   ·exact Qf ((Qq.mp p).1 x hx)
  ·have key:∀ {l:List Rat} {e x:Rat},l.Pairwise (· < ·)->l.getLast?=some e->x∈l->x<=e:=by
    intro l
    induction l with
    | nil=>intro e x _ _ hx;cases hx
    | cons a r ih=>
     intro e x hp he hx;obtain⟨p1,p2⟩:=Qq.mp hp
     cases r with
     | nil=>rw[Qu.mp hx];cases he;exact Qd
     | cons b r=>
      rw[V7] at he;rcases Qe.mp hx with rfl | hx
      ·exact Qr (Qf (p1 b Qb)) (ih p2 he Qb)
      ·exact ih p2 he hx
   exact key p la hx
theorem zEy{w:Wy}{ws cs:List Int}{l:List Rat}(hw:w.due ws cs)(hc:Cl cs)(h:JS w ws cs l){i:Nat}(hi:i < cs.length):Ok (jpt w ws cs l i)/\(jpt w ws cs l i).getLast?=some ((cs.sum:Rat),cR cs i):=by
 have b:=h.bd;refine⟨⟨?_,?_⟩,?_⟩
 ·unfold jpt
  rw[Xf,h.hd];show some ((0:Rat),FF w ws cs 0 i)=_
  rw[zIr hw hc hi]
 ·unfold jpt
  rw[VB];refine VX (fun {x y} hx hy hxy=>?_) (zLC h.cn)
  exact⟨hxy,zLF hw hc (b x hx).1 (Qf hxy) (b y hy).2 hi⟩
 ·unfold jpt
  rw[VC,h.la];show some ((cs.sum:Rat),FF w ws cs (cs.sum:Rat) i)=_
  rw[zDB hw hc hi]
theorem zMh{w:Wy}{ws cs:List Int}{l:List Rat}(hw:w.due ws cs)(hc:Cl cs)(h:JS w ws cs l){i:Nat}(hi:i < cs.length){x:Rat}(x0:0<=x)(x1:x<=(cs.sum:Rat)):bC (jpt w ws cs l i) x=FF w ws cs x i:=by
 obtain⟨ok,la⟩:=zEy hw hc h hi
 have pt:∀ {k:Nat} {p:Pt},(jpt w ws cs l i)[k]?=some p->l[k]?=some p.1/\p.2=FF w ws cs p.1 i:=fun {k p} e=>by
  unfold jpt at e;rw[Qt] at e
  cases hk:l[k]? with
  | none=>rw[hk] at e;cases e
  | some a=>rw[hk] at e;cases e;exact⟨rfl,rfl⟩
 rcases rR ok.2 la (fun p hp=>by rw[ok.1] at hp;cases hp;exact x0) x1 with⟨k,p,e1,e2⟩ | ⟨k,p,q,e1,e2,e3,e4⟩
 ·have v:=bP ok.2 e1
  rw[(pt e1).2,e2] at v;exact v
 ·rw[bX ok.2 e1 e2 (Qf e3) (Qf e4)]
  obtain⟨a1,a2⟩:=pt e1;obtain⟨b1,b2⟩:=pt e2;obtain⟨lt,j⟩:=zOk h.cn a1 b1;have k:=j.2.2.2 i hi x (Qf e3) (Qf e4);have k':(FF w ws cs x i - FF w ws cs p.1 i) * (q.1 - p.1)=(x - p.1) * (FF w ws cs q.1 i - FF w ws cs p.1 i):=k;unfold itp;rw[a2,b2];generalize FF w ws cs x i=u at *;generalize FF w ws cs p.1 i=v at *;generalize FF w ws cs q.1 i=z at *;have nz:q.1 - p.1≠0:=by grind
  refine lG nz ?_
  have e:(x - p.1) / (q.1 - p.1) * (q.1 - p.1)=x - p.1:=Q7 nz;generalize (x - p.1) / (q.1 - p.1)=r at *;grind
def wln(w:Wy)(ws cs:List Int)(l:List Rat)(i:Nat):List Pt:=lL (jpt w ws cs l i)
theorem zKw{w:Wy}{ws cs:List Int}{l:List Rat}(hw:w.due ws cs)(hc:Cl cs)(h:JS w ws cs l){i:Nat}(hi:i < cs.length):zNH (wln w ws cs l i)/\(wln w ws cs l i).getLast?=some ((cs.sum:Rat),cR cs i)/\(∀ p∈wln w ws cs l i,p.1∈l/\p.2=FF w ws cs p.1 i)/\∀ x,0<=x->x<=(cs.sum:Rat)->bC (wln w ws cs l i) x=FF w ws cs x i:=by
 obtain⟨ok,la⟩:=zEy hw hc h hi;unfold wln;refine⟨kL ok,by rw[uD ok.2];exact la,fun p hp=>?_,fun x x0 x1=>by rw[xU ok.2];exact zMh hw hc h hi x0 x1⟩
 have m:=(mZ ok.2).subset hp;unfold jpt at m;obtain⟨q,hq,rfl⟩:=Qp.mp m;exact⟨hq,rfl⟩
theorem uS:∀ {l m:List Rat},l.Perm m->l.Pairwise (·<=·)->m.Pairwise (·<=·)->l=m
 | [],m,p,_,_=>(List.nil_perm.mp p).symm
 | a::l,[],p,_,_=>by cases (List.perm_nil.mp p)
 | a::l,b::m,p,h,k=>by
  obtain⟨h1,h2⟩:=Qq.mp h;obtain⟨k1,k2⟩:=Qq.mp k
  have e:a=b:=by
   have x:a<=b:=by
    rcases Qe.mp (p.mem_iff.mpr Qb) with e | e
    ·rw[e];exact Qd
    ·exact h1 b e
   have y:b<=a:=by
    rcases Qe.mp (p.mem_iff.mp Qb) with e | e
    ·rw[e];exact Qd
    ·exact k1 a e
   grind
  subst e;rw[uS (List.perm_cons a |>.mp p) h2 k2]
theorem zCr{cs:List Int}{cd:D}(sc:Sq cd cs)(hc:Cl cs):fJ [cd]=.ok (.f ((rj cs 0).map dq)):=by
 have hi:=hc.hi
 have lp:∀(r:List Int)(a:Int)(acc:List D)(s:Sl),acc.length+r.length<=1000->∃ a' s',gO (gName 3) nV (r.map D.int) [.val cd,.val (.int a),.own (acc++[dq (a:Rat)]),s]=.ok (.nx [.val cd,a',.own (acc++(rj r a).map dq),s']):=by
  intro r
  induction r with
  | nil=>intro a acc s _;exact⟨_,s,rfl⟩
  | cons c r ih=>
   intro a acc s hl;rw[Qm] at hl;obtain⟨a',s',e⟩:=ih (a+c) (acc++[dq (a:Rat)]) (.val (.int c)) (by rw[Ql];simp;omega)
   refine⟨a',s',?_⟩
   rw[Qv,dL (ρ1:=[.val cd,.val (.int a),.own (acc++[dq (a:Rat)]),.val (.int c)]) (ρ2:=[.val cd,.val (.int (a+c)),.own (acc++[dq (a:Rat)]++[dq ((a+c:Int):Rat)]),.val (.int c)]) rfl (by
    symm;rw[bV];symm
    rw[if_pos (by rw[Ql];simp;omega)]),e,rj,Qv,Q9]
   rfl
 obtain⟨a',s',e⟩:=lp cs 0 [] .un (by simp;omega)
 rw[Vz,Vz] at e;unfold fJ;symm;rw[sc.seq];symm;have e0:dq ((0:Int):Rat)=dq 0:=rfl;rw[e0] at e;rw[e];symm
theorem zIN{ws cs:List Int}(h:Wt ws cs){i:Nat}{pre post:List Nat}(hm:∀ j∈pre++i::post,j < cs.length)(so:(pre++i::post).Pairwise fun a b=>lv ws cs a<=lv ws cs b)(p:(pre++i::post).Perm (List.range cs.length)):QQ ws cs (lv ws cs i)=((wS cs pre:Int):Rat)+lv ws cs i * ((wS ws (i::post):Int):Rat):=by
 unfold QQ;rw[<-uE p]
 have app:∀(f:Nat->Rat)(a b:List Nat),iP f (a++b)=iP f a+iP f b:=by
  intro f a b
  induction a with
  | nil=>rw[Vz,iM,Rat.zero_add]
  | cons x a ih=>rw[Xo,bG,bG,ih];grind
 obtain⟨s1,s2,s3⟩:=Yc.mp so;rw[app,eK (g:=cR cs) (l:=pre) fun j hj=>zFO h (hm j (Vw _ hj)) (s3 j hj i Qb),mE]
 rw[eK (g:=fun j=>cR ws j * lv ws cs i) (l:=i::post) fun j hj=>zFd h (hm j (Qz _ hj)) (by
  rcases Qe.mp hj with rfl | hj
  ·exact Qd
  ·exact(Qq.mp s2).1 j hj),dN,mE]
theorem zPd{ws cs:List Int}(h:Wt ws cs)(hc:Cl cs){i:Nat}(hi:i < cs.length):Sz 104 (lv ws cs i)/\Dn (ws.getD i 0) (lv ws cs i):=by
 have w:=h.at hi;have c1:=hc.nn _ (Qi (bQ hi));have c2:=hc.up _ (Qi (bQ hi));refine⟨?_,cs.getD i 0,?_⟩
 ·unfold lv cR
  rw[<-VA];exact Sz.of (by omega) (by omega) (by omega)
 ·have e:=xP h hi
  have e':((ws.getD i 0:Int):Rat) * lv ws cs i=((cs.getD i 0:Int):Rat):=e;rw[<-e'];grind
theorem zMO{cs:List Int}(hn:∀ c∈cs,0<=c):∀ {π:List Nat},(∀ i∈π,i < cs.length)->0<=wS cs π
 | [],_=>by show(0:Int)<=0;decide
 | i::π,h=>by
  rw[lS];have a:=hn _ (Qi (bQ (h i Qb)));have b:=zMO hn fun j hj=>h j (Qc _ hj)
  omega
theorem zKN(cs:List Int)(a b:List Nat):wS cs (a++b)=wS cs a+wS cs b:=by unfold wS;rw[QG,Vt]
theorem oW{ws cs:List Int}{wd cd:D}(sw:Sq wd ws)(sc:Sq cd cs)(h:Wt ws cs)(hc:Cl cs):∃ ls:List Rat,dG [wd,cd]=.ok (.f (((0::ls).map (QQ ws cs)).map dq))/\ls.Pairwise (·<=·)/\ls.Perm ((List.range cs.length).map (lv ws cs))/\QQ ws cs 0=0:=by
 have hcc:∀ c∈cs,0<=c/\c < 10^30:=fun c h=>⟨hc.nn c h,hc.up c h⟩
 have hi:=hc.hi;have sm:=hc.sum;have hw:=h.len;have hkr:=xJ (zKx h hcc) (by rw[yL hw];exact hi)
 generalize hkz:(lvs ws cs).map (zIW (sS (lvs ws cs)))=kz at hkr;have lz:kz.length=cs.length:=by rw[<-hkz,Qg,yL hw]
 have B0:(0:Rat) < (sS (lvs ws cs):Rat):=by exact_mod_cast yJ (lvs ws cs)
 have kat:∀ i,i < cs.length->((kz.getD i 0:Int):Rat)=lv ws cs i * (sS (lvs ws cs):Rat):=fun i h=>by
  have e:=zHQ hw h;have e2:kz.getD i 0=zIW (sS (lvs ws cs)) (cR cs i / cR ws i):=by rw[<-hkz,Qy,Qt,e];rfl
  rw[e2];exact zKD (Qi e)
 have z0:QQ ws cs 0=0:=by
  unfold QQ;rw[eK (g:=fun i=>cR ws i * 0) fun i hi=>zFd h (Qj.mp hi) (zHx h hc (Qj.mp hi)),dN];grind
 have ord:∀ π,gX kz π->π.Perm (List.range cs.length)/\(∀ i∈π,i < cs.length)/\π.Pairwise fun a b=>lv ws cs a<=lv ws cs b:=by
  intro π hπ;obtain⟨hp,ho⟩:=hπ;rw[lz] at hp;have hm:∀ i∈π,i < cs.length:=fun i h=>Qj.mp (hp.mem_iff.mp h)
  refine⟨hp,hm,VX (fun {i j} h1 h2 h3=>?_) ho⟩
  have h4:((kz.getD i 0:Int):Rat)<=((kz.getD j 0:Int):Rat):=Vu.mpr h3;rw[kat i (hm i h1),kat j (hm j h2)] at h4;exact VN h4 B0
 obtain⟨π0,hπ0⟩:=zDF kz;obtain⟨p0,m0,s0⟩:=ord π0 hπ0
 have key:∀ π,gX kz π->π.map (lv ws cs)=π0.map (lv ws cs):=fun π hπ=>by
  obtain⟨p1,m1,s1⟩:=ord π hπ;exact uS ((p1.trans p0.symm).map _) (VB.mpr s1) (VB.mpr s0)
 refine⟨π0.map (lv ws cs),?_,VB.mpr s0,p0.map _,z0⟩
 have lp:∀(π:List Nat)(hπ:π.Perm (List.range cs.length))(so:π.Pairwise fun a b=>lv ws cs a<=lv ws cs b)(post pre:List Nat)(acc:List D)(s:Sl),π=pre++post->acc.length+post.length<=100->∃ a' b' s',gO (gName 6) fX (kB post) [.val wd,.val cd,.val (.int (wS cs pre)),.val (.int (wS ws post)),.val (.lst ((lvs ws cs).map dq)),.own acc,s]=.ok (.nx [.val wd,.val cd,a',b',.val (.lst ((lvs ws cs).map dq)),.own (acc++post.map fun i=>dq (QQ ws cs (lv ws cs i))),s']):=by
  intro π hπ so post
  induction post with
  | nil=>intro pre acc s _ _;exact⟨_,_,s,by rw[Vo,QS];rfl⟩
  | cons i post ih=>
   intro pre acc s e hl;have hm:∀ j∈pre++i::post,j < cs.length:=fun j hj=>Qj.mp (hπ.mem_iff.mp (by rw[e];exact hj))
   have hii:=hm i (by simp)
   have ss:=zIN h hm (by rw[<-e];exact so) (by rw[<-e];exact hπ)
   have W:=h.sum (π:=i::post) fun j hj=>hm j (Qz _ hj)
   have ln:(pre++i::post).length=cs.length:=by rw[<-e,hπ.length_eq,QA]
   rw[Ql,Qm] at ln;rw[Qm] at W hl;have F0:=zMO hc.nn (π:=pre) fun j hj=>hm j (Vw _ hj)
   have F1:wS cs pre<=cs.sum:=by
    have t:=zI (ws:=cs) (π:=pre++i::post) (by rw[<-e];exact hπ)
    rw[zKN] at t;have:=zMO hc.nn (π:=i::post) fun j hj=>hm j (Qz _ hj)
    omega
   obtain⟨a',b',s',e'⟩:=ih (pre++[i]) (acc++[dq (QQ ws cs (lv ws cs i))]) (.val (.int (i:Nat))) (by rw[e];simp) (by rw[Ql];simp;omega)
   refine⟨a',b',s',?_⟩
   have zl:=(zPd h hc hii).1;have zW:Sz 24 ((wS ws (i::post):Int):Rat):=cT (by omega) (by decide)
   have zF:Sz 105 ((wS cs pre:Int):Rat):=cT (by omega) (by decide)
   have ixl:oIx (.lst ((lvs ws cs).map dq)) (.int (i:Int))=.ok (dq (lv ws cs i)):=nR (Vf i) (zHQ hw hii);show gO _ _ (.int (i:Nat)::kB post) _=_
   rw[dL (ρ1:=[.val wd,.val cd,.val (.int (wS cs pre)),.val (.int (wS ws (i::post))),.val (.lst ((lvs ws cs).map dq)),.own acc,.val (.int (i:Nat))]) (ρ2:=[.val wd,.val cd,.val (.int (wS cs (pre++[i]))),.val (.int (wS ws post)),.val (.lst ((lvs ws cs).map dq)),.own (acc++[dq (QQ ws cs (lv ws cs i))]),.val (.int (i:Nat))]) rfl (by
    symm;rw[bV];symm;rw[ixl];symm;rw[bV];symm;rw[mP zl zW (by decide)];symm;rw[zCj zF (zl.mul zW) (by decide),<-ss];symm;rw[if_pos (by omega)];symm;rw[sc.ix hii];symm;rw[sw.ix (by omega)];symm
    rw[zKN,lS ws,show wS cs [i]=cs.getD i 0 by unfold wS;simp,show ws.getD i 0+wS ws post - ws.getD i 0=wS ws post by omega]),e',Q9]
   rfl
 have one:∀ π,gX kz π->bD (fun ρ=>gO (gName 6) fX (kB π) ρ) mQ [.val wd,.val cd,.val (.int 0),.val (.int ws.sum),.val (.lst ((lvs ws cs).map dq)),.own [dq 0],.un]=.ok (.ret (.f (((0::π0.map (lv ws cs)).map (QQ ws cs)).map dq))):=by
  intro π hπ;obtain⟨p1,m1,s1⟩:=ord π hπ;have lπ:π.length=cs.length:=by rw[p1.length_eq,QA]
  obtain⟨a',b',s',e⟩:=lp π p1 s1 π [] [dq 0] .un rfl (by simp;omega)
  rw[show wS cs []=0 from rfl,zI (ws:=ws) (π:=π) (by rw[hw];exact p1)] at e;refine(zKP (a:=fun ρ=>gO (gName 6) fX (kB π) ρ) e).trans ?_
  rw[<-key π hπ,Qv,z0,Qv,Qw,Qw];rfl
 unfold dG;symm;rw[sw.sum];symm;rw[tO sw sc h hi];symm;unfold mD;rw[zGo (kz:=kz) (by symm; exact hkr) one];rfl
theorem rF{l:List Rat}{S:Int}(hl:l.length<=1000)(hz:∀ x∈l,Sz 300 x)(hS:S.natAbs < 2^105):gE [.lst (l.map dq),dq (S:Rat)]=.ok (.f ((l.reverse.map fun x=>(S:Rat) - x).map dq)):=by
 have zS:Sz 105 (S:Rat):=cT hS (by decide)
 unfold gE;symm;rw[show(l.map dq).reverse=l.reverse.map dq by rw[List.map_reverse]]
 rw[eT (u:=dq) (g:=fun x=>dq ((S:Rat) - x)) (by rw[Q4];omega) (fun x hx=>by
  symm;rw[eP zS (hz x (Yd.mp hx)) (by decide)]
  symm)]
 symm;rw[Qw];rfl
theorem qK{l:List Rat}(hl:l.length<=900)(hz:∀ x∈0::l,Sz 300 x):dA [.lst ((0::l).map dq)]=.ok (.f ((0::ddR 0 l).map dq)):=by
 have lp:∀(r:List Rat)(acc:List Rat)(k:Rat)(d:Sl)(s:Sl),(∀ x∈r,Sz 300 x)->Sz 300 k->acc.length+r.length<=1000->∃ s',gO (gName 2) iX (r.map dq) [d,.own ((acc++[k]).map dq),s]=.ok (.nx [d,.own ((acc++k::ddR k r).map dq),s']):=by
  intro r
  induction r with
  | nil=>intro acc k d s _ _ _;exact⟨s,rfl⟩
  | cons x r ih=>
   intro acc k d s hr hk hl;rw[Qm] at hl;have hx:=hr x Qb;have ixk:oIx (.lst ((acc++[k]).map dq)) (.int (-1))=.ok (dq k):=zCJ (k:=1) rfl (by decide) (by rw[Ql];simp) (by rw[Ql];simp)
   have hr':∀ y∈r,Sz 300 y:=fun y hy=>hr y (Qc _ hy)
   rw[Qv,ddR];by_cases z:k < x
   ·obtain⟨s',e⟩:=ih (acc++[k]) x d (.val (dq x)) hr' hx (by rw[Ql];simp;omega)
    refine⟨s',?_⟩
    rw[if_pos z,dL (ρ1:=[d,.own ((acc++[k]).map dq),.val (dq x)]) (ρ2:=[d,.own ((acc++[k]++[x]).map dq),.val (dq x)]) rfl (by
     cases d<;>(
      symm;rw[ixk];symm;rw[jS hk hx (by decide),decide_eq_true z];symm;rw[if_pos (by rw[Ql];simp;omega),QG (l₁:=acc++[k])]
      rfl)),e,Q9]
    rfl
   ·obtain⟨s',e⟩:=ih acc k d (.val (dq x)) hr' hk (by omega)
    refine⟨s',?_⟩
    rw[if_neg z,dL (ρ1:=[d,.own ((acc++[k]).map dq),.val (dq x)]) (ρ2:=[d,.own ((acc++[k]).map dq),.val (dq x)]) rfl (by
     cases d<;>(
      symm;rw[ixk];symm;rw[jS hk hx (by decide),decide_eq_false z]
      symm)),e]
 obtain⟨s',e⟩:=lp (0::l) [] 0 (.val (.lst ((0::l).map dq))) .un hz ⟨by decide,by decide⟩ (by simp;omega)
 rw[Vz,Vz,ddR,if_neg (by decide)] at e;unfold dA;symm;rw[zJu (by decide),show((1:Int).toNat)=1 from rfl,show List.take 1 (dq 0::l.map dq)=[0].map dq from rfl];rw[Qv] at e;rw[e];rfl
theorem zQR{B S:Int}{x:Rat}(h:Dn B x)(hB:0 < B)(hB':B < 2^30)(h0:0<=x)(h1:x<=(S:Rat))(hS:S < 2^104):Sz 300 x:=(h.sz (a:=104) (b:=30) hB hB' h0 h1 hS).mono (by decide)
def Jd(cs:List Int)(l:List Rat):Prop:=l.length<=30/\∀ x∈l,∃ B:Int,0 < B/\B<=2 * 10^6/\Dn B x
theorem zLK{w:Wy}{ws cs:List Int}:∀ {l:List Rat},Cn (Jt w ws cs) l->2<=l.length->∀ x∈l,0<=x/\x<=(cs.sum:Rat)
 | [],_,h,x,hx=>by cases hx
 | [a],_,h,x,hx=>by simp at h
 | [a,b],h,_,x,hx=>by
  obtain⟨h1,h2,h3,_⟩:=h.1;rcases Qe.mp hx with rfl | hx
  ·exact⟨h1,Qr h2 h3⟩
  ·rw[Qu.mp hx];exact⟨Qr h1 h2,h3⟩
 | a::b::c::l,h,_,x,hx=>by
  obtain⟨h1,h2,h3,_⟩:=h.1;rcases Qe.mp hx with rfl | hx
  ·exact⟨h1,Qr h2 h3⟩
  ·exact zLK h.2 (by simp) x hx
theorem zLs:∀(r:List Int)(a:Int),∀ x∈rj r a,∃ k:Int,x=(k:Rat)
 | [],a,x,h=>⟨a,Qu.mp h⟩
 | c::r,a,x,h=>by
  rcases Qe.mp h with rfl | h
  ·exact⟨a,rfl⟩
  ·exact zLs r (a+c) x h
theorem zLi:∀(r:List Int)(a:Int),(rj r a).length=r.length+1/\(rj r a).getLast?=some ((a+r.sum:Int):Rat)
 | [],a=>⟨rfl,by show some (a:Rat)=_;rw[X7,Int.add_zero]⟩
 | c::r,a=>by
  obtain⟨h1,h2⟩:=zLi r (a+c);refine⟨by rw[rj,Qm,h1,Qm],?_⟩
  obtain⟨t,et⟩:=zDl r (a+c);rw[rj,et,V7,<-et,h2,QE,X8]
theorem zMf{ws cs:List Int}(h:Wt ws cs)(hc:Cl cs){ls:List Rat}(so:ls.Pairwise (·<=·))(pm:ls.Perm ((List.range cs.length).map (lv ws cs))):∀ x∈(0::ls).map (QQ ws cs),∃ B:Int,0 < B/\B<=10^6/\Dn B x:=by
 have gd:∀(t:Rat)(B:Int),Dn B t->Dn B (QQ ws cs t):=fun t B hB=>by
  have all:∀ l:List Nat,Dn B (iP (dS (cR cs) (cR ws) t) l):=by
   intro l
   induction l with
   | nil=>exact Dn.zero B
   | cons i l ih=>
    rw[bG];refine Dn.add (Dn.mn ?_ (Dn.int _ _)) ih
    obtain⟨k,hk⟩:=hB;refine⟨ws.getD i 0 * k,?_⟩
    rw[QJ,<-hk];show cR ws i * t * _=cR ws i * _
    grind
  exact all _
 intro x hx;obtain⟨t,ht,rfl⟩:=Qp.mp hx;rcases Qe.mp ht with rfl | ht
 ·exact⟨1,by decide,by decide,gd 0 1 (Dn.zero 1)⟩
 ·obtain⟨i,hi,rfl⟩:=Qp.mp (pm.mem_iff.mp ht)
  have hi':=Qj.mp hi;have w:=h.at hi';exact⟨ws.getD i 0,by omega,w.2,gd _ _ (zPd h hc hi').2⟩
theorem zIV(w:Wy):aX.lookup w.s=some w.con.s:=by
 cases w
 ·exact zIq
 ·exact zY
 ·exact zEU
 ·exact zAj
 ·exact zEz
 ·exact yT
theorem zGL(w:Wy):dQ [.str w.s]=.ok (.v (.str w.con.s)):=by
 have e:tU aX (.str w.s)=.ok (.str w.con.s):=by show zNG (aX.lookup w.s)=_;rw[zIV];rfl
 unfold dQ;symm;rw[tH (zIV w)];symm;rw[e];symm
theorem zD:∀ {l:List Rat} {e x:Rat},l.Pairwise (·<=·)->l.getLast?=some e->x∈l->x<=e
 | [],_,_,_,h,_=>by cases h
 | [a],e,x,_,h,hx=>by rw[Qu.mp hx];cases h;exact Qd
 | a::b::r,e,x,hp,h,hx=>by
  obtain⟨p1,p2⟩:=Qq.mp hp;rw[V7] at h;rcases Qe.mp hx with rfl | hx
  ·exact Qr (p1 b Qb) (zD p2 h Qb)
  ·exact zD p2 h hx
theorem zNw{ws cs:List Int}(h:Wt ws cs)(hc:Cl cs){ls:List Rat}(so:ls.Pairwise (·<=·))(pm:ls.Perm ((List.range cs.length).map (lv ws cs)))(z0:QQ ws cs 0=0):JL .even ws cs ((0::ls).map (QQ ws cs)):=by
 have hm:∀ i,i < cs.length->lv ws cs i∈ls:=fun i hi=>pm.mem_iff.mpr (Qp.mpr ⟨i,Qj.mpr hi,rfl⟩)
 have h0:∀ x∈ls,0<=x:=fun x hx=>by
  obtain⟨i,hi,rfl⟩:=Qp.mp (pm.mem_iff.mp hx);exact zHx h hc (Qj.mp hi)
 refine⟨zNj h hc so hm h0,by rw[Qv,z0];rfl,?_⟩
 rw[VC];obtain⟨e,he⟩:∃ e,(0::ls).getLast?=some e:=⟨_,List.getLast?_eq_some_getLast (by simp)⟩
 rw[he];have so':(0::ls).Pairwise (·<=·):=Qq.mpr ⟨h0,so⟩;refine congrArg some ?_
 unfold QQ;rw[eK (g:=cR cs) fun i hi=>zFO h (Qj.mp hi) (zD so' he (Qc _ (hm i (Qj.mp hi))))];exact sG cs
theorem zKI{w:Wy}{ws cs:List Int}(hw:w.due ws cs)(hc:Cl cs){l:List Rat}(h:JL w ws cs l):JL w.con ws cs (l.reverse.map fun x=>(cs.sum:Rat) - x):=by
 refine⟨zHp (fun a b k=>zKM hw hc k) h.cn,?_,?_⟩
 ·rw[Xf,List.head?_reverse,h.la]
  show some ((cs.sum:Rat) - (cs.sum:Rat))=some 0
  rw[show(cs.sum:Rat) - (cs.sum:Rat)=0 by grind]
 ·rw[VC,X9,h.hd]
  show some ((cs.sum:Rat) - 0)=_
  rw[show(cs.sum:Rat) - 0=(cs.sum:Rat) by grind]
theorem zMS{cs:List Int}(hc:Cl cs){l:List Rat}(h:JL .even (ones cs) cs l):JL .half [] cs (l.map (· * hf)++(l.map (· * hf)).reverse.map fun x=>(cs.sum:Rat) - x):=by
 have c1:Cn (Jt .half [] cs) (l.map (· * hf)):=zHP (fun a b k=>zMq hc k) h.cn
 have c2:Cn (Jt .half [] cs) ((l.map (· * hf)).reverse.map fun x=>(cs.sum:Rat) - x):=zHp (fun a b k=>zKM (w:=.half) (ws:=[]) rfl hc k) c1
 have s0:(0:Rat)<=(cs.sum:Rat):=by exact_mod_cast hc.sum.1
 have hh:hf+hf=1:=by rw[gW];grind
 have h0:(0:Rat)<=hf:=by rw[gW];grind
 have m0:=Xr s0 h0;refine⟨zGr c1 c2 fun x y hx hy=>?_,?_,?_⟩
 ·rw[VC,h.la] at hx
  rw[Xf,List.head?_reverse,VC,h.la] at hy;cases hx;cases hy
  have e:(cs.sum:Rat) - (cs.sum:Rat) * hf=(cs.sum:Rat) * hf:=by
   generalize (cs.sum:Rat)=S at *;generalize hf=H at *;grind
  show Jt .half [] cs ((cs.sum:Rat) * hf) ((cs.sum:Rat) - (cs.sum:Rat) * hf)
  rw[e];refine⟨m0,Qd,by grind,fun i hi x x1 x2=>?_⟩
  have:x=(cs.sum:Rat) * hf:=by grind
  subst this;grind
 ·cases l with
  | nil=>cases h.hd
  | cons a l=>
   cases h.hd
   show some ((0:Rat) * hf)=some 0
   rw[XR]
 ·have ne:((l.map (· * hf)).reverse.map fun x=>(cs.sum:Rat) - x).getLast?=some (cs.sum:Rat):=by
   rw[VC,X9,Xf,h.hd];show some ((cs.sum:Rat) - 0 * hf)=_
   rw[show(cs.sum:Rat) - 0 * hf=(cs.sum:Rat) by grind]
  rw[List.getLast?_append,ne];rfl
theorem zMI{w:Wy}{ws cs:List Int}(hc:Cl cs){l:List Rat}(h:JL w ws cs l)(h2:2<=l.length)(d:Jd cs l):∀ x∈l,Sz 300 x:=fun x hx=>by
 obtain⟨b0,b1⟩:=zLK h.cn h2 x hx;obtain⟨B,B0,B1,dn⟩:=d.2 x hx;exact zQR dn B0 (by omega) b0 b1 hc.sum.2
theorem zMB{w:Wy}{ws cs:List Int}{l:List Rat}(h:JL w ws cs l):∃ t,l=0::t:=by
 cases l with
 | nil=>cases h.hd
 | cons a t=>cases h.hd;exact⟨t,rfl⟩
section
variable{n:Nat}{ws cs:List Int}{wd cd e:D}
theorem zON(sc:Sq cd cs)(hc:Cl cs):bM (n+1) [.str (Str.ofString "row"),e,cd]=.ok (.f ((rj cs 0).map dq)):=by
 show cB (bM n) _=_
 unfold cB;symm;rw[sc.sum];symm;rw[bV];symm;rw[zCr sc hc];symm
theorem zKJ(sw:Sq wd ws)(sc:Sq cd cs)(h:Wt ws cs)(hc:Cl cs):∃ ls:List Rat,bM (n+1) [.str (Str.ofString "even"),wd,cd]=.ok (.f (((0::ls).map (QQ ws cs)).map dq))/\ls.Pairwise (·<=·)/\ls.Perm ((List.range cs.length).map (lv ws cs))/\QQ ws cs 0=0:=by
 obtain⟨ls,e1,e2,e3,e4⟩:=oW sw sc h hc;refine⟨ls,?_,e2,e3,e4⟩
 show cB (bM n) _=_
 unfold cB;symm;rw[sc.sum];symm;rw[bV];symm;rw[zRi];symm;rw[e1];symm
theorem zOh(sc:Sq cd cs):bM (n+1) [.str (Str.ofString "part"),e,cd]=.ok (.f ([0,(cs.sum:Rat)].map dq)):=by
 show cB (bM n) _=_
 unfold cB;symm;rw[sc.sum];symm;rw[bV];symm;rw[zRs];symm;rw[zRf];symm
theorem zPF(sc:Sq cd cs)(hc:Cl cs):∃ ls:List Rat,bM (n+1) [.str (Str.ofString "half"),e,cd]=.ok (.f ((((0::ls).map (QQ (ones cs) cs)).map (· * hf)++(((0::ls).map (QQ (ones cs) cs)).map (· * hf)).reverse.map fun x=>(cs.sum:Rat) - x).map dq))/\ls.Pairwise (·<=·)/\ls.Perm ((List.range cs.length).map (lv (ones cs) cs))/\QQ (ones cs) cs 0=0:=by
 obtain⟨ls,e1,e2,e3,e4⟩:=oW (wd:=.lst ((ones cs).map D.int)) (.inl rfl) sc (fA cs) hc;have hi:=hc.hi;have sm:=hc.sum;have W:=fA cs;have jl:=zNw W hc e2 e3 e4;have ll:((0::ls).map (QQ (ones cs) cs)).length=cs.length+1:=by rw[Qg,Qm,e3.length_eq,Qg,QA]
 have bd:=zLK jl.cn (by rw[ll];have:=hc.lo;omega)
 have dn:=zMf W hc e2 e3;refine⟨ls,?_,e2,e3,e4⟩
 generalize (0::ls).map (QQ (ones cs) cs)=l at *
 have zl:∀ x∈l,Sz 134 x:=fun x hx=>by
  obtain⟨B,B0,B1,d⟩:=dn x hx;exact d.sz (a:=104) (b:=30) B0 (by omega) (bd x hx).1 (bd x hx).2 sm.2
 have eo:(ones cs).map D.int=List.replicate cs.length (.int 1):=by unfold ones;rw[List.map_replicate]
 rw[eo] at e1;have hh:=zOA;unfold d_HALF at hh;show cB (bM n) _=_
 unfold cB;symm;rw[sc.sum];symm;rw[bV];symm;rw[zQP];symm;rw[zQa];symm;rw[zQH];symm;rw[sc.len];symm;rw[zEg (by omega)];symm;rw[e1];symm
 rw[eT (u:=dq) (g:=fun x=>dq (x * hf)) (by omega) (fun x hx=>by
  symm;rw[hh,mP (zl x hx) zGh (by decide)]
  symm)]
 symm;have lm:l.map (fun x=>dq (x * hf))=(l.map (· * hf)).map dq:=by rw[Qw];rfl
 rw[lm,rF (S:=cs.sum) (by rw[Qg];omega) (fun x hx=>by
  obtain⟨y,hy,rfl⟩:=Qp.mp hx
  exact((zl y hy).mul zGh).mono (by decide)) (by omega)]
 symm;rw[if_pos (by simp only[Q4,Qg];omega),QG];symm
end
def SzQ(a b:Nat)(p:Pt):Prop:=Sz a p.1/\Sz b p.2
theorem zBn{a b c:Pt}{n m:Nat}(ha:SzQ n m a)(hb:SzQ n m b)(hc:SzQ n m c)(h:2 * n+2 * m+2<=8999):hG [dp a,dp b,dp c]=.ok (.v (.bl (btw a b c))):=by
 unfold hG;symm;rw[eP hb.2 ha.2 (by omega)];symm;rw[eP hc.2 hb.2 (by omega)];symm;rw[eP hb.1 ha.1 (by omega)];symm;rw[eP hc.1 hb.1 (by omega)];symm;rw[mP (hb.2.sub ha.2) (hc.1.sub hb.1) (by omega)];symm;rw[mP (hc.2.sub hb.2) (hb.1.sub ha.1) (by omega)];symm;rfl
theorem zBr{d:D}{ps:List Pt}{n m:Nat}(hd:d=.lst (ps.map dp)∨d=.tup (ps.map dp))(hl:ps.length<=100000)(hs:∀ p∈ps,SzQ n m p)(hn:2 * n+2 * m+2<=8999)(hk:Ok ps):gZ [d]=.ok (.v .non):=by
 obtain⟨hh,hp⟩:=hk;have ln:nQ [d]=.ok (.int (ps.length:Int)):=by rcases hd with rfl | rfl<;>simp[bLen_l,bLen_t]
 have ix:∀(i:Int)(k:Nat)(a:Pt),i=(k:Int)->ps[k]?=some a->oIx d (.int i)=.ok (dp a):=by
  intro i k a hi ha;subst hi;rcases hd with rfl | rfl
  ·exact nR (by omega) (by simpa using ha)
  ·exact oK (by omega) (by simpa using ha)
 clear hd
 have hpos:0 < ps.length:=by cases ps with
  | nil=>cases hh
  | cons a r=>exact V8 _
 have h0:ps[0]?=some (0,0):=by rw[<-Vs];exact hh
 unfold gZ;symm;rw[ln];symm;rw[decide_eq_false (by omega)];symm;rw[ix 0 0 _ rfl h0];symm;rw[ln];symm;rw[zNf (by omega) (by omega) (by omega) (by omega)];symm;refine mM (Q:=fun r=>r=Res.ok (Rt.v D.non)) (fun i ρ=>∃ a b c,ρ=[.val d,a,b,c]) ⟨_,_,_,rfl⟩ ?_ ?_
 ·rintro i e ρ hd ⟨a,b,c,rfl⟩
  obtain⟨hi,rfl⟩:=zHq hd;have h1:ps[i]?=some ps[i]:=Qn _;have h2:ps[i+1]?=some ps[i+1]:=Qn _;have z1:=hs _ (Qi h1);have z2:=hs _ (Qi h2);have za:=iG hp (QT i) h1 h2;generalize ps[i]=u at h1 z1 za;generalize ps[i+1]=v at h2 z2 za;symm;rw[ix _ i _ (by omega) h1];symm;rw[ix _ (i+1) _ (by omega) h2];symm;rw[jS z1.1 z2.1 (by omega)];symm;rw[decide_eq_true za.1];symm;rw[jS z2.2 z1.2 (by omega)];symm;rw[decide_eq_false (by rw[QP];exact za.2)];symm;exact⟨_,rfl,_,_,_,rfl⟩
 ·rintro ρ' ⟨a,b,c,rfl⟩
  rfl
theorem pY{d:D}{ps:List Pt}{n m:Nat}(hd:d=.lst (ps.map dp)∨d=.tup (ps.map dp))(hl:ps.length<=100000)(hs:∀ p∈ps,SzQ n m p)(hn:2 * n+2 * m+2<=8999)(hk:Ok ps):eS [d]=.ok (.v (.tup ((lL ps).map dp))):=by
 have sq:zJO d=.ok (ps.map dp):=by rcases hd with rfl | rfl<;>rfl
 unfold eS;symm;rw[zBr hd hl hs hn hk];symm;rw[sq];symm;refine mM (Q:=fun r=>r.bind fin=.ok (.v (.tup ((lL ps).map dp)))) (fun i ρ=>∃ a,ρ=[.val d,.own (((ps.take i).foldl push []).reverse.map dp),a]/\(∀ p∈(ps.take i).foldl push [],SzQ n m p)/\((ps.take i).foldl push []).length<=i) ⟨_,rfl,fun p hp=>by(rw[X0] at hp;cases hp),by rw[X0];exact Qh _⟩ ?_ ?_
 ·rintro i e ρ hd ⟨a,rfl,hz,hlen⟩
  rw[Qt] at hd
  cases hq:ps[i]? with
  | none=>rw[hq] at hd;cases hd
  | some p=>
   rw[hq] at hd;cases hd;have hi:i < ps.length:=(Qx.mp hq).1;have zp:=hs _ (Qi hq);rw[mV hq,List.foldl_append,XB,List.foldl_nil];generalize (ps.take i).foldl push []=s at hz hlen;generalize hK:(uK:Sv)=K;symm;by_cases hc:1 < s.length
   case neg=>
    rw[Q4,decide_eq_false (by omega)];subst hK;symm;rw[if_pos (by rw[Q4];omega),zFy hc];exact⟨_,rfl,.val (dp p),by simp,by intro q hq;rcases Qe.mp hq with rfl | hq;exact zp;exact hz q hq,by simp;omega⟩
   match s,hz,hlen,hc with
   | [],_,_,hc=>exact absurd hc (by decide)
   | [b],_,_,hc=>exact absurd hc (by simp)
   | b::a::s,hz,hlen,_=>
    have za:=hz a (Qc _ Qb);have zb:=hz b Qb;have zs:∀ q∈s,SzQ n m q:=fun q hq=>hz q (Qc _ (Qc _ hq))
    have e1:((b::a::s).reverse)[(b::a::s).reverse.length - 1]?=some b:=by simp
    have e2:((b::a::s).reverse)[(b::a::s).reverse.length - 2]?=some a:=by simp
    rw[Qm,Qm] at hlen;have hll:(b::a::s).reverse.length=s.length+2:=by simp
    rw[hll];rw[decide_eq_true (by omega)];symm;rw[zCJ (i:=-2) (k:=2) rfl (by decide) (by rw[hll];omega) e2];symm;rw[zCJ (i:=-1) (k:=1) rfl (by decide) (by rw[hll];omega) e1];symm;rw[zBn za zb zp hn];symm
    cases hb:btw a b p with
    | false=>
     subst hK;symm;rw[hll,if_pos (by omega)];refine⟨_,rfl,.val (dp p),?_,?_,?_⟩
     ·rw[push,hb]
      simp
     ·rw[push,hb]
      intro q hq;rcases Qe.mp hq with rfl | hq
      ·exact zp
      ·exact hz q hq
     ·rw[push,hb]
      simp;omega
    | true=>
     subst hK;symm;rw[hll,if_neg (by omega)];symm;rw[if_pos (by simp;omega)];refine⟨_,rfl,.val (dp p),?_,?_,?_⟩
     ·rw[push,hb]
      simp
     ·rw[push,hb]
      intro q hq;rcases Qe.mp hq with rfl | hq
      ·exact zp
      ·exact hz q (Qc _ hq)
     ·rw[push,hb]
      simp;omega
 ·rintro ρ' ⟨a,rfl,_,_⟩
  rw[Qg,Vc];symm;rfl
theorem zNT{w:Wy}{ws cs:List Int}{wd cd:D}{l:List Rat}(hw:w=.back∨w=.lack)(sc:Sq cd cs)(hc:Cl cs)(hl:l.length<=30)(hz:∀ x∈l,Sz 300 x)(e:bM 1 [.str w.con.s,wd,cd]=.ok (.f (l.map dq))):bM 2 [.str w.s,wd,cd]=.ok (.f ((l.reverse.map fun x=>(cs.sum:Rat) - x).map dq)):=by
 have sm:=hc.sum;have c:=zGL w;show cB (bM 1) _=_
 unfold cB;symm;rw[sc.sum];symm;rw[bV];symm;rcases hw with rfl | rfl
 ·rw[show Wy.back.s=Str.ofString "back" from rfl,zRp]
  symm;rw[zRv];symm;rw[zRz];symm;rw[zRw];symm;rw[show Str.ofString "back" = Wy.back.s from rfl,c];symm;rw[e];symm;rw[rF (by omega) hz (by omega)];symm
 ·rw[show Wy.lack.s=Str.ofString "lack" from rfl,zRj]
  symm;rw[zRx];symm;rw[zRd];symm;rw[zRm];symm;rw[show Str.ofString "lack" = Wy.lack.s from rfl,c];symm;rw[e];symm;rw[rF (by omega) hz (by omega)];symm
theorem zLl{cs:List Int}{l:List Rat}(h:Jd cs l):Jd cs (l.reverse.map fun x=>(cs.sum:Rat) - x):=by
 refine⟨by rw[Qg,Q4];exact h.1,fun x hx=>?_⟩
 obtain⟨y,hy,rfl⟩:=Qp.mp hx;obtain⟨B,b0,b1,d⟩:=h.2 y (Yd.mp hy);exact⟨B,b0,b1,(Dn.int B cs.sum).sub d⟩
theorem zKj{w:Wy}{ws cs:List Int}{wd cd:D}(sw:Sq wd ws)(sc:Sq cd cs)(hw:w.due ws cs)(hc:Cl cs):∃ l:List Rat,bM 2 [.str w.s,wd,cd]=.ok (.f (l.map dq))/\JL w ws cs l/\Jd cs l/\2<=l.length:=by
 have hi:=hc.hi;have lo:=hc.lo
 have row:JL .row [] cs (rj cs 0)/\Jd cs (rj cs 0)/\2<=(rj cs 0).length:=by
  obtain⟨l1,l2⟩:=zLi cs 0;refine⟨⟨zPo hc,?_,by rw[l2,Int.zero_add]⟩,⟨by omega,fun x hx=>?_⟩,by omega⟩
  ·obtain⟨t,et⟩:=zDl cs 0
   rw[et];rfl
  ·obtain⟨k,rfl⟩:=zLs cs 0 x hx
   exact⟨1,by decide,by decide,Dn.int 1 k⟩
 have evn:∀ ls:List Rat,Wt ws cs->ls.Pairwise (·<=·)->ls.Perm ((List.range cs.length).map (lv ws cs))->QQ ws cs 0=0->JL .even ws cs ((0::ls).map (QQ ws cs))/\Jd cs ((0::ls).map (QQ ws cs))/\2<=((0::ls).map (QQ ws cs)).length:=fun ls W e2 e3 e4=>by
  have ll:((0::ls).map (QQ ws cs)).length=cs.length+1:=by rw[Qg,Qm,e3.length_eq,Qg,QA]
  refine⟨zNw W hc e2 e3 e4,⟨by omega,fun x hx=>?_⟩,by omega⟩
  obtain⟨B,b0,b1,d⟩:=zMf W hc e2 e3 x hx;exact⟨B,b0,by omega,d⟩
 cases w with
 | row=>
  have e:ws=[]:=hw;subst e;exact⟨_,zON (n:=1) (e:=wd) sc hc,row⟩
 | part=>
  have e:ws=[]:=hw;subst e;refine⟨_,zOh (n:=1) (e:=wd) sc,⟨zNt hc,rfl,rfl⟩,⟨by show 2<=30;decide,fun x hx=>?_⟩,Qh 2⟩
  rcases Qe.mp hx with rfl | hx
  ·exact⟨1,by decide,by decide,Dn.zero 1⟩
  ·rw[Qu.mp hx];exact⟨1,by decide,by decide,Dn.int 1 _⟩
 | even=>
  obtain⟨ls,e1,e2,e3,e4⟩:=zKJ (n:=1) sw sc hw hc;exact⟨_,e1,evn ls hw e2 e3 e4⟩
 | back=>
  have e:ws=[]:=hw;subst e;have k:=zNT (w:=.back) (ws:=[]) (.inl rfl) sc hc row.2.1.1 (zMI hc row.1 row.2.2 row.2.1) (zON (n:=0) (e:=wd) sc hc);exact⟨_,k,zKI (w:=.row) rfl hc row.1,zLl row.2.1,by rw[Qg,Q4];exact row.2.2⟩
 | lack=>
  obtain⟨ls,e1,e2,e3,e4⟩:=zKJ (n:=0) sw sc hw hc;obtain⟨r1,r2,r3⟩:=evn ls hw e2 e3 e4;have k:=zNT (w:=.lack) (ws:=ws) (.inr rfl) sc hc r2.1 (zMI hc r1 r3 r2) e1;exact⟨_,k,zKI (w:=.even) hw hc r1,zLl r2,by rw[Qg,Q4];exact r3⟩
 | half=>
  have e:ws=[]:=hw;subst e;obtain⟨ls,e1,e2,e3,e4⟩:=zPF (n:=1) (e:=wd) sc hc;have W:=fA cs;have ll:((0::ls).map (QQ (ones cs) cs)).length=cs.length+1:=by rw[Qg,Qm,e3.length_eq,Qg,QA]
  have jl:=zNw W hc e2 e3 e4;have dn:=zMf W hc e2 e3;generalize (0::ls).map (QQ (ones cs) cs)=l at *;refine⟨_,e1,zMS hc jl,⟨?_,fun x hx=>?_⟩,?_⟩
  ·simp only[Ql,Qg,Q4];omega
  ·have early:∀ y∈l.map (· * hf),∃ B:Int,0 < B/\B<=2 * 10^6/\Dn B y:=fun y hy=>by
    obtain⟨z,hz,rfl⟩:=Qp.mp hy;obtain⟨B,b0,b1,d⟩:=dn z hz;exact⟨B * 2,by omega,by omega,zFL d⟩
   rcases QF.mp hx with hx | hx
   ·exact early x hx
   ·obtain⟨y,hy,rfl⟩:=Qp.mp hx
    obtain⟨B,b0,b1,d⟩:=early y (Yd.mp hy);exact⟨B,b0,b1,(Dn.int B cs.sum).sub d⟩
  ·simp only[Ql,Qg,Q4];omega
theorem zEp{α:Type}:∀ l:List α,l.zip l=l.map fun x=>(x,x)
 | []=>rfl
 | a::l=>by rw[List.zip_cons_cons,zEp l,Qv]
theorem zDg{w:Wy}{ws cs:List Int}{wd cd:D}(sw:Sq wd ws)(sc:Sq cd cs)(hw:w.due ws cs)(hc:Cl cs):∃ J:List Rat,gG [.str w.s,wd,cd]=.ok (.f ((List.range cs.length).map fun i=>.tup ((wln w ws cs J i).map dp)))/\JS w ws cs J/\J.length<=30/\(∀ x∈J,Sz 300 x/\∀ i,i < cs.length->Sz 670 (FF w ws cs x i))/\Jd cs J:=by
 obtain⟨l,e1,jl,jd,l2⟩:=zKj sw sc hw hc;have zl:=zMI hc jl l2 jd;obtain⟨t,rfl⟩:=zMB jl;have js:=jl.js;have hi:=hc.hi;have lt:=jd.1;rw[Qm] at lt;have e2:=qK (l:=t) (by omega) zl
 have sub:=zGc t 0;have ln:(0::ddR 0 t).length<=30:=by rw[Qm];have:=sub.length_le;omega
 have zj:∀ x∈0::ddR 0 t,Sz 300 x:=fun x hx=>zl x (by
  rcases Qe.mp hx with rfl | hx
  ·exact Qb
  ·exact Qc _ (sub.subset hx))
 have dj:Jd cs (0::ddR 0 t):=⟨ln,fun x hx=>jd.2 x (by
  rcases Qe.mp hx with rfl | hx
  ·exact Qb
  ·exact Qc _ (sub.subset hx))⟩
 generalize 0::ddR 0 t=J at *;have bd:=js.bd
 have rd:∀ q∈J,aQ 2 [.str w.s,wd,cd,dq q]=.ok (.f (((List.range cs.length).map (FF w ws cs q)).map dq))/\∀ i,i < cs.length->Sz 670 (FF w ws cs q i):=fun q hq=>by
  have ha:Haul 300 q cs.sum:=⟨(bd q hq).1,(bd q hq).2,zj q hq⟩;obtain⟨f,ef,af⟩:=zCu sw sc (by decide) hw hc ha
  have df:=zMR hw hc ha af;have eq:∀ i,i < cs.length->f i=FF w ws cs q i:=fun i hi=>zCe hw hc (bd q hq).1 (bd q hq).2 af hi
  refine⟨by rw[ef,Q5 (g:=FF w ws cs q) fun i hi=>eq i (Qj.mp hi)],fun i hi=>by rw[<-eq i hi];exact(df.bd i hi).2.2⟩
 refine⟨J,?_,js,ln,fun x hx=>⟨zj x hx,(rd x hx).2⟩,dj⟩
 unfold gG;symm;rw[zDU sw sc hw hc];symm;rw[e1];symm;rw[Qv] at e2;rw[e2];symm
 rw[eT (u:=dq) (g:=fun q=>D.lst (((List.range cs.length).map (FF w ws cs q)).map dq)) (by omega) (fun q hq=>by
  symm;rw[(rd q hq).1]
  symm)]
 symm;rw[sc.len];symm;rw[xW (by omega) (by omega)];symm;rw[show rng 0 ((cs.length:Int)).toNat 1=(List.range cs.length).map fun j:Nat=>D.int (j:Int) by unfold rng;rw[QW];exact Q5 fun j _=>by rw[show(0:Int)+(j:Int) * 1=(j:Int) by omega]]
 rw[eT (u:=fun j:Nat=>D.int (j:Int)) (g:=fun i=>D.tup ((wln w ws cs J i).map dp)) (by rw[QA];omega) (fun i hi=>by
  have hi':=Qj.mp hi
  have fl:lX [.lst (J.map dq),.lst (J.map fun q=>D.lst (((List.range cs.length).map (FF w ws cs q)).map dq)),.int (i:Int)]=.ok (.v (.tup ((wln w ws cs J i).map dp))):=by
   obtain⟨ok,la⟩:=zEy hw hc js hi';unfold lX;symm;rw[oG rfl rfl];symm
   rw[lT (u:=dq) (v:=fun q=>D.lst (((List.range cs.length).map (FF w ws cs q)).map dq)) (g:=fun x y=>dp (x,FF w ws cs y i)) (by omega) (fun p hp=>by
    have e:oIx (.lst (((List.range cs.length).map (FF w ws cs p.2)).map dq)) (.int (i:Int))=.ok (dq (FF w ws cs p.2 i)):=by
     rw[Qw];exact nR (Vf i) (show(List.range cs.length)[i]?=some i from Vb hi')
    symm;rw[e]
    symm)]
   symm;rw[zEp,Qw,show(J.map ((fun p:Rat×Rat=>dp (p.1,FF w ws cs p.2 i)) ∘ fun x=>(x,x)))=(jpt w ws cs J i).map dp by unfold jpt;rw[Qw];rfl]
   rw[pY (n:=300) (m:=670) (.inl rfl) (by unfold jpt;rw[Qg];omega) (fun p hp=>by
    unfold jpt at hp;obtain⟨q,hq,rfl⟩:=Qp.mp hp
    exact⟨zj q hq,(rd q hq).2 i hi'⟩) (by decide) ok]
   symm;rfl
  symm;rw[fl]
  symm)]
 symm
theorem zEd{ps:List Pt}{p:Pt}(h:ps.getLast?=some p):kO [.tup (ps.map dp)]=.ok (.v (dq p.1)):=by
 have h0:0 < ps.length:=by cases ps with
  | nil=>cases h
  | cons a r=>exact V8 _
 unfold kO;symm;rw[zGP (i:=-1) (k:=1) rfl (by decide) h0 (by rw[<-Vk];exact h)];symm
theorem zES{ps:List Pt}{p:Pt}(h:ps.getLast?=some p):kQ [.tup (ps.map dp)]=.ok (.v (dq p.2)):=by
 have h0:0 < ps.length:=by cases ps with
  | nil=>cases h
  | cons a r=>exact V8 _
 unfold kQ;symm;rw[zGP (i:=-1) (k:=1) rfl (by decide) h0 (by rw[<-Vk];exact h)];symm
theorem zGI(b:Bool)(p:Pt):oIx (dp p) (.int (axi b))=.ok (dq (ax b p)):=by cases b<;>rfl
theorem zEe(b:Bool)(p:Pt):oIx (dp p) (.int (1 - axi b))=.ok (dq (ax (!b) p)):=by cases b<;>rfl
theorem zII{x l:Rat}{m n:Nat}(hx:Sz m x)(hl:Sz n l)(h:m+n<=99990):dZ [dq x,dq l]=.ok (.v (.bl (decide (x < 0) || decide (l < x)))):=by
 unfold dZ;symm;rw[jS (n:=1) hx ⟨by decide,by decide⟩ (by omega)];symm;by_cases c:x < 0
 ·rw[decide_eq_true c]
  symm
 ·rw[decide_eq_false c]
  symm;rw[jS hl hx (by omega)];symm
theorem xK{x l:Rat}{m n:Nat}(hx:Sz m x)(hl:Sz n l)(h:m+n<=99990)(h0:0<=x)(h1:x<=l):aZ [dq x,dq l]=.ok (.v .non):=by
 unfold aZ;symm;rw[zII hx hl h,decide_eq_false (by grind),decide_eq_false (by grind)];symm
theorem lE{ps:List Pt}{n m:Nat}(b:Bool){y:Rat}(h0:0 < ps.length)(hl:ps.length<=100000)(hs:∀ p∈ps,Sz n (ax b p))(hy:Sz m y)(hn:n+m<=99999)(hp:ps.Pairwise asc):
  ∃ k:Nat,bT [.tup (ps.map dp),.int (axi b),dq y]=.ok (.v (.int (k:Int)))/\k < ps.length/\(∀ j p,j < k->ps[j]?=some p->ax b p < y)/\(k+1=ps.length∨∃ p,ps[k]?=some p/\y<=ax b p):=by
 unfold bT;symm
 refine zEX (fun ρ=>∃(u v:Nat)(r:Sl),ρ=[.val (.tup (ps.map dp)),.val (.int (axi b)),.val (dq y),.val (.int (u:Int)),.val (.int (v:Int)),r]/\u<=v/\v < ps.length/\(∀ j p,j < u->ps[j]?=some p->ax b p < y)/\(v+1=ps.length∨∃ p,ps[v]?=some p/\y<=ax b p))
  (fun ρ=>(slI 4 ρ - slI 3 ρ).toNat)
  (fun r=>∃ k:Nat,(r.bind (zJo jQ)).bind fin=.ok (.v (.int (k:Int)))/\k < ps.length/\(∀ j p,j < k->ps[j]?=some p->ax b p < y)/\(k+1=ps.length∨∃ p,ps[k]?=some p/\y<=ax b p))
  ⟨0,ps.length - 1,_,by rw[show((ps.length - 1:Nat):Int)=(ps.length:Int) - 1 by omega];rfl,by omega,by omega,fun j p h=>absurd h (by omega),.inl (by omega)⟩ ?_
 rintro ρ ⟨u,v,r,rfl,h1,h2,h3,h4⟩
 by_cases c:u < v
 ·refine .inr ⟨?_,?_⟩
  ·symm
   rw[decide_eq_true (by omega)]
  ·obtain⟨mid,e,b1,b2⟩:∃ mid:Nat,((u:Int)+(v:Int)) / 2=(mid:Int)/\u<=mid/\mid < v:=⟨(u+v) / 2,by omega,by omega,by omega⟩
   have hm:mid < ps.length:=Nat.lt_trans b2 h2;have hq:ps[mid]?=some ps[mid]:=Qn hm;have hz:=hs _ (Qi hq);generalize ps[mid]=q at hq hz;symm;rw[e,oK (Vf _) (by rw[QW];exact hq)];symm;rw[zGI];symm;rw[jS hz hy hn];symm;by_cases d:ax b q < y
   ·rw[decide_eq_true d]
    symm;refine⟨_,rfl,⟨mid+1,v,_,rfl,b2,h2,?_,h4⟩,?_⟩
    ·intro j p hj hpj
     have:=jZ hp b (Nat.le_of_lt_succ hj) hpj hq
     grind
    ·show((v:Int) - ((mid:Int)+1)).toNat < ((v:Int) - (u:Int)).toNat
     omega
   ·rw[decide_eq_false d]
    symm;refine⟨_,rfl,⟨u,mid,_,rfl,b1,hm,h3,.inr ⟨q,hq,by grind⟩⟩,?_⟩
    show((mid:Int) - (u:Int)).toNat < ((v:Int) - (u:Int)).toNat
    omega
 ·have e:u=v:=by omega
  subst e;refine .inl ⟨?_,u,?_,h2,h3,h4⟩
  ·symm
   rw[decide_eq_false (by omega)]
  ·symm
theorem zMy{ps:List Pt}{n l m:Nat}(b:Bool){y:Rat}(h0:0 < ps.length)(hl:ps.length<=100000)(hs:∀ p∈ps,Sz n (ax b p)/\Sz l (ax (!b) p))(hy:Sz m y)(hn:m+3 * n+3 * l+4<=8999)(hp:ps.Pairwise asc)(hlo:∀ p,ps[0]?=some p->ax b p<=y)(hhi:∀ p,ps.getLast?=some p->y<=ax b p):
  ∃ r:Rat,oT [.tup (ps.map dp),.int (axi b),dq y]=.ok (.v (dq r))/\∃(k:Nat)(q:Pt),ps[k]?=some q/\(∀ j p,j < k->ps[j]?=some p->ax b p < y)/\
   ((ax b q=y/\r=ax (!b) q)∨(0 < k/\y < ax b q/\∃ p,ps[k - 1]?=some p/\ax b p < y/\r=ax (!b) p+(y - ax b p) / (ax b q - ax b p) * (ax (!b) q - ax (!b) p))):=by
 obtain⟨k,e,hk,h1,h2⟩:=lE b h0 hl (fun p h=>(hs p h).1) hy (by omega) hp
 have hq:ps[k]?=some ps[k]:=Qn hk;have zq:=hs _ (Qi hq);generalize ps[k]=q at hq zq
 have hyq:y<=ax b q:=by
  rcases h2 with h2 | ⟨p,hp,h2⟩
  ·refine hhi q ?_
   rw[Vk,show ps.length - 1=k by omega];exact hq
  ·rw[hq] at hp
   cases hp;exact h2
 unfold oT;symm;rw[e];symm;rw[oK (by omega) (by rw[QW];exact hq)];symm;rw[zGI];symm;by_cases c:ax b q=y
 ·rw[decide_eq_true c]
  symm;rw[zEe];symm;exact⟨_,rfl,k,q,hq,h1,.inl ⟨c,rfl⟩⟩
 ·have c2:y < ax b q:=by grind
  have k0:0 < k:=by
   rcases XU k with z | z
   ·subst z
    have:=hlo q hq
    grind
   ·exact z
  have hp1:ps[k - 1]?=some ps[k - 1]:=Qn _;have zp:=hs _ (Qi hp1);generalize ps[k - 1]=p at hp1 zp;have lp:=h1 _ p (show k - 1 < k by omega) hp1
  have nz:ax b q - ax b p≠0:=by grind
  rw[decide_eq_false c];symm;rw[oK (by omega) (by rw[show((k:Int) - 1).toNat=k - 1 by omega];exact hp1)];symm;rw[zGI];symm;rw[eP hy (zp.1) (by omega)];symm;rw[zGI];symm;rw[zGI];symm;rw[eP (zq.1) (zp.1) (by omega)];symm;have z1:=hy.sub (zp.1);have z2:=(zq.1).sub (zp.1);have z3:=z1.div z2 nz;have z4:=(zq.2).sub (zp.2);rw[zID z1 z2 nz (by omega)];symm;rw[zEe];symm;rw[zEe];symm;rw[zEe];symm;rw[eP (zq.2) (zp.2) (by omega)];symm;rw[mP z3 z4 (by omega)];symm;rw[zCj (zp.2) (z3.mul z4) (by omega)];symm;exact⟨_,rfl,k,q,hq,h1,.inr ⟨k0,c2,p,hp1,lp,rfl⟩⟩
theorem zIx{ps:List Pt}{a b m:Nat}{x:Rat}{e:Pt}(hl:ps.length<=100000)(hs:∀ p∈ps,SzQ a b p)(hx:Sz m x)(hn:m+3 * a+3 * b+4<=8999)(hk:Ok ps)(he:ps.getLast?=some e)(h0:0<=x)(h1:x<=e.1):
  qX [.tup (ps.map dp),dq x]=.ok (.v (dq (bC ps x))):=by
 obtain⟨hh,hp⟩:=hk
 have hpos:0 < ps.length:=by cases ps with
  | nil=>cases hh
  | cons a r=>exact V8 _
 have ze:SzQ a b e:=hs e (XT he)
 obtain⟨r,e1,k,q,hq,hj,h⟩:=zMy false hpos hl (n:=a) (l:=b) hs hx hn hp (fun p hp=>by
  rw[<-Vs,hh] at hp;cases hp;exact h0) (fun p hp=>by rw[he] at hp;cases hp;exact h1)
 have er:r=bC ps x:=by
  rcases h with⟨c,rfl⟩ | ⟨k0,c,p,hp1,lp,rfl⟩
  ·have:q.1=x:=c
   rw[<-this];exact(bP hp hq).symm
  ·exact(bX hp hp1 (by rw[show k - 1+1=k by omega];exact hq) (Qf lp) (Qf c)).symm
 subst er;unfold qX;symm;rw[zEd he];symm;rw[xK hx ze.1 (by omega) h0 h1];symm;rw[show(0:Int)=axi false from rfl,e1];symm
theorem zEL{ps:List Pt}(hl:ps.length<=100000):nL [.tup (ps.map dp)]=.ok (.f ((ps.map Prod.fst).map dq)):=by
 unfold nL;symm;rw[zCh (h:=fun d=>match d with | .tup [x,_]=>x | _=>.non) (by rw[Qg];omega) ?_]
 ·symm
  rw[Qw,Qw];rfl
 ·intro d hd
  obtain⟨p,_,rfl⟩:=Qp.mp hd;symm;rfl
structure Mg (A B:List Rat) (i s:Nat) (C:List Rat):Prop where
 asc:C.Pairwise (· < ·)
 mem:∀ y,y∈C ↔ y∈A.take i∨y∈B.take s
 below:∀(j:Nat)(b:Rat),s<=j->B[j]?=some b->∀ c∈C,c < b
 under:∀(j:Nat)(a:Rat),i<=j->A[j]?=some a->∀ c∈C,c < a
 le:s<=B.length
 len:C.length<=i+s
theorem zEx{C:List Rat}{x:Rat}(h:C.Pairwise (· < ·))(hx:∀ c∈C,c < x):(C++[x]).Pairwise (· < ·):=by
 refine Yc.mpr ⟨h,Xu _ _,fun a ha b hb=>?_⟩
 rcases Qe.mp hb with rfl | hb
 ·exact hx a ha
 ·cases hb
theorem zBM{A:List Rat}(h:A.Pairwise (· < ·)){i j:Nat}{a b:Rat}(l:i < j)(ha:A[i]?=some a)(hb:A[j]?=some b):a < b:=by
 obtain⟨hi,rfl⟩:=Qx.mp ha;obtain⟨hj,rfl⟩:=Qx.mp hb;exact Xk.mp h i j hi hj l
theorem fQ{A:List Rat}{i:Nat}{a y:Rat}(h:A[i]?=some a):y∈A.take (i+1) ↔ y∈A.take i∨y=a:=by
 rw[mV h,QF,Qu]
theorem zKq{A B:List Rat}{m:Nat}(ha:A.Pairwise (· < ·))(hb:B.Pairwise (· < ·))(la:A.length<=100000)(lb:B.length<=100000)(za:∀ x∈A,Sz m x)(zb:∀ x∈B,Sz m x)(hm:m<=40000):
  ∃ C:List Rat,qB [.lst (A.map dq),.lst (B.map dq)]=.ok (.f (C.map dq))/\C.Pairwise (· < ·)/\(∀ y,y∈C ↔ y∈A∨y∈B)/\C.length<=A.length+B.length:=by
 have ix:∀(k:Nat)(a:Rat),B[k]?=some a->oIx (.lst (B.map dq)) (.int (k:Int))=.ok (dq a):=by
  intro k a h;exact nR (by omega) (by simpa using h)
 unfold qB;symm
 refine mM (Q:=fun r=>∃ C:List Rat,r.bind fin=.ok (.f (C.map dq))/\C.Pairwise (· < ·)/\(∀ y,y∈C ↔ y∈A∨y∈B)/\C.length<=A.length+B.length)
  (fun i ρ=>∃(s:Nat)(C:List Rat)(a:Sl),ρ=[.val (.lst (A.map dq)),.val (.lst (B.map dq)),.own (C.map dq),.val (.int (s:Int)),a]/\Mg A B i s C)
  ⟨0,[],_,rfl,⟨List.Pairwise.nil,by simp,by simp,by simp,by omega,by simp⟩⟩ ?_ ?_
 ·rintro i d ρ hd ⟨s,C,a,rfl,g⟩
  rw[Qt] at hd
  cases hq:A[i]? with
  | none=>rw[hq] at hd;cases hd
  | some x=>
   rw[hq] at hd;cases hd;have hi:i < A.length:=(Qx.mp hq).1;have zx:=za x (Qi hq);symm
   refine zEX (fun ρ=>∃(s:Nat)(C:List Rat),ρ=[.val (.lst (A.map dq)),.val (.lst (B.map dq)),.own (C.map dq),.val (.int (s:Int)),.val (dq x)]/\Mg A B i s C)
    (fun ρ=>B.length - (slI 3 ρ).toNat)
    (fun r=>∃ ρ2,r.bind (zJo rG)=.ok (.nx ρ2)/\∃(s:Nat)(C:List Rat)(a:Sl),ρ2=[.val (.lst (A.map dq)),.val (.lst (B.map dq)),.own (C.map dq),.val (.int (s:Int)),a]/\Mg A B (i+1) s C) ⟨s,C,rfl,g⟩ ?_
   rintro ρ ⟨s,C,rfl,g⟩
   have fin1:(s < B.length->∃ b,B[s]?=some b/\¬ b < x)->∃ ρ2,rG [.val (.lst (A.map dq)),.val (.lst (B.map dq)),.own (C.map dq),.val (.int (s:Int)),.val (dq x)]=.ok (.nx ρ2)/\∃(s:Nat)(C:List Rat)(a:Sl),ρ2=[.val (.lst (A.map dq)),.val (.lst (B.map dq)),.own (C.map dq),.val (.int (s:Int)),a]/\Mg A B (i+1) s C:=by
    intro hs
    have base:∀ s':Nat,s'<=B.length->s'<=s+1->(∀ y,(y∈A.take i∨y∈B.take s)∨y=x ↔ y∈A.take (i+1)∨y∈B.take s')->(∀(j:Nat)(b:Rat),s'<=j->B[j]?=some b->x < b/\s<=j)->C.length+1<=i+1+s'->Mg A B (i+1) s' (C++[x]):=by
     intro s' h1 h1' h2 h3 h4;have cx:∀ c∈C,c < x:=g.under i x (Qh _) hq;refine⟨zEx g.asc cx,fun y=>?_,fun j b hj hb' c hc=>?_,fun j a hj ha' c hc=>?_,h1,by rw[Ql];exact h4⟩
     ·rw[QF,Qu,g.mem y]
      exact h2 y
     ·have h5:=h3 j b hj hb'
      rcases QF.mp hc with hc | hc
      ·exact g.below j b h5.2 hb' c hc
      ·rw[Qu.mp hc]
       exact h5.1
     ·have h5:=zBM ha (show i < j by omega) hq ha'
      rcases QF.mp hc with hc | hc
      ·have:=cx c hc
       grind
      ·rw[Qu.mp hc]
       exact h5
    have len:=g.len;have le:=g.le;symm;by_cases c1:s < B.length
    ·obtain⟨b,hb1,hb2⟩:=hs c1
     rw[decide_eq_true (by omega)];symm;rw[ix s b hb1];symm;by_cases c2:b=x
     ·rw[decide_eq_true c2]
      symm;rw[if_pos (by omega)];refine⟨_,rfl,s+1,C++[x],_,by rw[QG];rfl,base (s+1) (by omega) (by omega) (fun y=>?_) (fun j b' hj hb'=>?_) (by omega)⟩
      ·rw[fQ hq,fQ hb1,c2]
       constructor
       ·rintro ((h | h) | h)
        ·exact .inl (.inl h)
        ·exact .inr (.inl h)
        ·exact .inl (.inr h)
       ·rintro ((h | h) | (h | h))
        ·exact .inl (.inl h)
        ·exact .inr h
        ·exact .inl (.inr h)
        ·exact .inr h
      ·have:=zBM hb (show s < j by omega) hb1 hb'
       rw[c2] at this;exact⟨this,by omega⟩
     ·rw[decide_eq_false c2]
      symm;rw[if_pos (by omega)];refine⟨_,rfl,s,C++[x],_,by rw[QG];rfl,base s le (by omega) (fun y=>?_) (fun j b' hj hb'=>?_) (by omega)⟩
      ·rw[fQ hq]
       grind
      ·rcases Vr hj with l | l
       ·have:=zBM hb l hb1 hb'
        exact⟨by grind,hj⟩
       ·subst l
        rw[hb1] at hb';cases hb'
        exact⟨by grind,hj⟩
    ·rw[decide_eq_false (by omega)]
     symm;rw[if_pos (by omega)];refine⟨_,rfl,s,C++[x],_,by rw[QG];rfl,base s le (by omega) (fun y=>?_) (fun j b' hj hb'=>?_) (by omega)⟩
     ·rw[fQ hq]
      grind
     ·have:=(Qx.mp hb').1
      omega
   by_cases c1:s < B.length
   ·have hb1:B[s]?=some B[s]:=Qn c1
    have zb1:=zb _ (Qi hb1);generalize B[s]=b at hb1 zb1;by_cases c2:b < x
    ·refine .inr ⟨?_,?_⟩
     ·symm
      rw[decide_eq_true (by omega)];symm;rw[ix s b hb1];symm;rw[jS zb1 zx (by omega),decide_eq_true c2];symm
     ·have len:=g.len
      symm;rw[ix s b hb1];symm;rw[if_pos (by omega)];symm;refine⟨_,rfl,⟨s+1,C++[b],by rw[QG];rfl,⟨zEx g.asc (g.below s b (Qh _) hb1),fun y=>?_,fun j b' hj hb' c hc=>?_,fun j a' hj ha' c hc=>?_,c1,by rw[Ql,XC];omega⟩⟩,?_⟩
      ·rw[QF,Qu,g.mem y,fQ hb1]
       grind
      ·have:=zBM hb (show s < j by omega) hb1 hb'
       rcases QF.mp hc with hc | hc
       ·exact g.below j b' (by omega) hb' c hc
       ·rw[Qu.mp hc]
        exact this
      ·rcases QF.mp hc with hc | hc
       ·exact g.under j a' hj ha' c hc
       ·rw[Qu.mp hc]
        rcases Vr hj with l | l
        ·have:=zBM ha l hq ha'
         grind
        ·subst l
         rw[hq] at ha';cases ha'
         exact c2
      ·show B.length - (s+1) < B.length - s
       exact Nat.sub_lt_sub_left c1 (QT s)
    ·refine .inl ⟨?_,?_⟩
     ·symm
      rw[decide_eq_true (by omega)];symm;rw[ix s b hb1];symm;rw[jS zb1 zx (by omega),decide_eq_false c2];symm
     ·exact fin1 fun _=>⟨b,hb1,c2⟩
   ·refine .inl ⟨?_,?_⟩
    ·symm
     rw[decide_eq_false (by omega)];symm
    ·exact fin1 fun h=>absurd h c1
 ·rintro ρ' ⟨s,C,a,rfl,g⟩
  have len:=g.len;have le:=g.le;rw[Qg] at g len;symm;rw[zFB (by omega),<-List.map_drop,if_pos (by rw[Qg,QZ];omega)];symm;refine⟨C++B.drop s,by rw[QG,QW],?_,fun y=>?_,by rw[Ql,QZ];omega⟩
  ·refine Yc.mpr ⟨g.asc,hb.sublist (List.drop_sublist _ _),fun c hc b hb'=>?_⟩
   obtain⟨j,hj⟩:=VW.mp hb';rw[Yf] at hj;exact g.below (s+j) b (by omega) hj c hc
  ·rw[QF,g.mem y,Vc]
   constructor
   ·rintro ((h | h) | h)
    ·exact .inl h
    ·exact .inr (V6 h)
    ·exact .inr (Yz h)
   ·rintro (h | h)
    ·exact .inl (.inl h)
    ·rw[<-Yg s B,QF] at h
     rcases h with h | h
     ·exact .inl (.inr h)
     ·exact .inr h
theorem zJH{ps:List Pt}{a b m:Nat}{y:Rat}{e:Pt}(hl:ps.length<=100000)(hs:∀ p∈ps,SzQ a b p)(hy:Sz m y)(hn:m+3 * a+3 * b+4<=8999)(hk:Ok ps)(he:ps.getLast?=some e)(h0:0<=y)(h1:y<=e.2):
  ∃ r:Rat,oT [.tup (ps.map dp),.int 1,dq y]=.ok (.v (dq r))/\zCw ps y r:=by
 have hpos:0 < ps.length:=by cases ps with
  | nil=>cases he
  | cons a r=>exact V8 _
 obtain⟨r,e1,k,q,hq,hj,h⟩:=zMy true hpos hl (n:=b) (l:=a) (fun p hp=>⟨(hs p hp).2,(hs p hp).1⟩) hy (by omega) hk.2 (fun p hp=>by rw[<-Vs,hk.1] at hp;cases hp;exact h0) (fun p hp=>by rw[he] at hp;cases hp;exact h1)
 exact⟨r,e1,k,q,hq,hj,h⟩
theorem zJR{ps qs:List Pt}{e f:Pt}(a b c d n m z:Nat)(hp:Ok ps)(hq:Ok qs)(he:ps.getLast?=some e)(hf:qs.getLast?=some f)(hL:e.1=f.2)(lp:ps.length<=40000)(lq:qs.length<=40000)
  (zp:∀ p∈ps,SzQ a b p) (zq:∀ p∈qs,SzQ c d p) (n1:a+3 * c+3 * d+4<=8999) (cm:c<=m) (n2:m+3 * c+3 * d+4<=8999) (n3:n+3 * a+3 * b+4<=8999) (n4:2 * m+2 * z+2<=8999)
  (hb:∀ p∈ps,∀ r,zCw qs p.1 r->Sz m r) (hv:∀ y,(∃ q∈qs,y=q.2)∨(∃ p∈ps,y=p.1)->Sz n y/\Sz z (bC ps y)):
  ∃ R:List Pt,gN [.tup (ps.map dp),.tup (qs.map dp)]=.ok (.v (.tup (R.map dp)))/\zNH R/\R.getLast?=some (f.1,e.2)/\R.length<=ps.length+qs.length/\(∀ x,0<=x->x<=f.1->bC R x=bC ps (bC qs x))/\(∀ r∈R,SzQ m z r/\((∃ q∈qs,r.1=q.1)∨∃ p∈ps,zCw qs p.1 r.1)):=by
 have bp:∀ p∈ps,0<=p.1/\p.1<=f.2:=fun p h=>by have:=cZ hp he h;exact⟨this.1,by rw[<-hL];exact this.2.1⟩
 have up:∀ p∈ps,∃ r,oT [.tup (qs.map dp),.int 1,dq p.1]=.ok (.v (dq r))/\zCw qs p.1 r:=fun p h=>zJH (by omega) zq (zp p h).1 n1 hq hf (bp p h).1 (bp p h).2
 obtain⟨bf,hbf⟩:∃ bf:Pt->Rat,∀ p∈ps,oT [.tup (qs.map dp),.int 1,dq p.1]=.ok (.v (dq (bf p)))/\zCw qs p.1 (bf p):=
  ⟨fun p=>if h:p∈ps then Classical.choose (up p h) else 0,fun p h=>by simp only[dif_pos h];exact Xt (up p h)⟩
 have hval:∀ p∈ps,bC qs (bf p)=p.1/\0<=bf p/\bf p<=f.1:=fun p h=>(hbf p h).2.val hq hf
 have hasc:(ps.map bf).Pairwise (· < ·):=by
  refine VB.mpr (VX ?_ hp.2)
  intro a b ha hb' hab;have h1:=hval a ha;have h2:=hval b hb';rcases (Q6:bf b<=bf a∨bf a<=bf b) with l | l
  ·have:=dI hq hf h2.2.1 l h1.2.2
   have:=hab.1
   grind
  ·have:bf a≠bf b:=by
    intro z;have:=hab.1
    rw[<-h1.1,<-h2.1,z] at this;grind
   grind
 have zb:∀ x∈ps.map bf,Sz m x:=fun x hx=>by
  obtain⟨p,h,rfl⟩:=Qp.mp hx;exact hb p h _ (hbf p h).2
 have zx:∀ x∈qs.map Prod.fst,Sz m x:=fun x hx=>by
  obtain⟨p,h,rfl⟩:=Qp.mp hx;exact(zq p h).1.mono cm
 obtain⟨C,h1,h2,h3,h4⟩:=zKq (zNh hq.2) hasc (by rw[Qg];omega) (by rw[Qg];omega) zx zb (by omega)
 rw[Qg,Qg] at h4;have zC:∀ t∈C,Sz m t:=fun t ht=>((h3 t).mp ht).elim (zx t) (zb t)
 have from':∀ t∈C,(∃ q∈qs,t=q.1)∨∃ p∈ps,t=bf p:=by
  intro t ht;rcases (h3 t).mp ht with h | h
  ·obtain⟨q,h5,rfl⟩:=Qp.mp h
   exact .inl ⟨q,h5,rfl⟩
  ·obtain⟨q,h5,rfl⟩:=Qp.mp h
   exact .inr ⟨q,h5,rfl⟩
 have J:Joints ps qs f C:=by
  refine⟨h2,fun q h=>(h3 _).mpr (.inl (Qp.mpr ⟨q,h,rfl⟩)),fun p h=>⟨bf p,(h3 _).mpr (.inr (Qp.mpr ⟨p,h,rfl⟩)),(hval p h).1⟩,fun t ht=>?_⟩
  rcases from' t ht with⟨q,h,rfl⟩ | ⟨p,h,rfl⟩
  ·have:=cZ hq hf h
   exact⟨this.1,this.2.1⟩
  ·exact(hval p h).2
 have v2:∀ t∈C,(∃ q∈qs,bC qs t=q.2)∨∃ p∈ps,bC qs t=p.1:=by
  intro t ht;rcases from' t ht with⟨q,h,rfl⟩ | ⟨p,h,rfl⟩
  ·obtain⟨i,hi⟩:=VW.mp h
   exact .inl ⟨q,h,bP hq.2 hi⟩
  ·exact .inr ⟨p,h,(hval p h).1⟩
 have sz:∀ t∈C,Sz n (bC qs t)/\Sz z (bC ps (bC qs t)):=fun t ht=>hv _ (v2 t ht)
 obtain⟨ok,la⟩:=zEZ hp hq he hf hL J;refine⟨lL (rN ps qs C),?_,kL ok,by rw[uD ok.2];exact la,QB (mZ ok.2).length_le (by unfold rN;rw[Qg];omega),fun x h0 h1=>by rw[xU ok.2,zIL hp hq he hf hL J h0 h1],fun r hr=>?_⟩
 rotate_left
 ·obtain⟨t,ht,rfl⟩:=Qp.mp ((mZ ok.2).subset hr)
  exact⟨⟨zC t ht,(sz t ht).2⟩,(from' t ht).imp id fun ⟨p,h,e⟩=>⟨p,h,e ▸ (hbf p h).2⟩⟩
 unfold gN;symm;rw[zEd he];symm;rw[zES hf];symm;rw[hL];symm;rw[zEL (by omega)];symm
 rw[Qw,eT (u:=dq ∘ Prod.fst) (g:=fun p=>dq (bf p)) (by omega) (fun p h=>by
  show aP oT _ [_,_,_,_,.val (dq p.1)]=_
  symm;rw[(hbf p h).1]
  symm)]
 symm;rw[zEL (by omega)];symm;rw[show(ps.map fun p=>dq (bf p))=(ps.map bf).map dq by rw[Qw];rfl,h1];symm
 rw[eT (u:=dq) (g:=fun t=>dp (t,bC ps (bC qs t))) (by omega) (fun t ht=>by
  have b2:=pF hq hf (J.bd t ht).1 (J.bd t ht).2;symm;rw[zIx (by omega) zq (zC t ht) n2 hq hf (J.bd t ht).1 (J.bd t ht).2];symm;rw[zIx (by omega) zp (sz t ht).1 n3 hp he b2.1 (by rw[hL];exact b2.2)]
  symm)]
 symm;rw[show(C.map fun t=>dp (t,bC ps (bC qs t)))=(rN ps qs C).map dp by unfold rN;rw[Qw];rfl];rw[pY (n:=m) (m:=z) (.inl rfl) (by unfold rN;rw[Qg];omega) ?_ n4 ok]
 ·symm
 ·intro p hp1
  obtain⟨t,ht,rfl⟩:=Qp.mp hp1;exact⟨zC t ht,(sz t ht).2⟩
def zCx(ps:List Pt)(y a b:Rat):Prop:=∃(k:Nat)(q:Pt),ps[k]?=some q/\(∀(j:Nat)(p:Pt),j < k->ps[j]?=some p->p.2 < y)/\(∀(j:Nat)(p:Pt),k+2<=j->ps[j]?=some p->y < p.2)/\
  ((q.2=y/\a=q.1/\((∃ u:Pt,ps[k+1]?=some u/\u.2=y/\b=u.1)∨((∀ u:Pt,ps[k+1]?=some u->y < u.2)/\b=q.1)))∨
   (0 < k/\y < q.2/\(∃ p:Pt,ps[k - 1]?=some p/\p.2 < y/\a=itp (p.2,p.1) (q.2,q.1) y)/\b=a))
theorem zIE{ps:List Pt}{e:Pt}{y:Rat}{u v m:Nat}(h:zNH ps)(hl:ps.length<=100000)(hs:∀ p∈ps,SzQ u v p)(hy:Sz m y)(hn:m+3 * u+3 * v+4<=8999)(he:ps.getLast?=some e)(h0:0<=y)(h1:y<=e.2):
  ∃ a b,kJ [.tup (ps.map dp),dq y]=.ok (.v (.tup [dq a,dq b]))/\zCx ps y a b:=by
 have hpos:0 < ps.length:=by cases ps with
  | nil=>cases he
  | cons a r=>exact V8 _
 have hla:ps[ps.length - 1]?=some e:=by rw[<-Vk];exact he
 have ze:=hs e (XT he);have hp:=h.1.2;obtain⟨a,e1,k,q,hq,hj,c⟩:=zMy true hpos hl (n:=v) (l:=u) (fun p hp=>⟨(hs p hp).2,(hs p hp).1⟩) hy (by omega) hp (fun p hp=>by rw[<-Vs,h.1.1] at hp;cases hp;exact h0) (fun p hp=>by rw[he] at hp;cases hp;exact h1)
 obtain⟨k',e2,hk',hj',c'⟩:=lE true (n:=v) hpos hl (fun p hp=>(hs p hp).2) hy (by omega) hp
 have hkl:=(Qx.mp hq).1
 have yq:y<=q.2:=by
  rcases c with⟨c,_⟩ | ⟨_,c,_⟩
  ·rw[show q.2=y from c];exact Qd
  ·exact Qf c
 have kk:k'=k:=by
  rcases Xl k' k with l | l | l
  ·have hq':ps[k']?=some ps[k']:=Qn hk'
   have l1:=hj _ _ l hq';rcases c' with c' | ⟨p,hp',c'⟩
   ·omega
   ·rw[hq'] at hp'
    cases hp'
    exact absurd l1 (by show ¬ ax true _ < y;grind)
  ·exact l
  ·exact absurd (hj' _ _ l hq) (by show ¬ q.2 < y;grind)
 subst kk;have far:∀(j:Nat)(p:Pt),k'+1<=j->ps[j]?=some p->q.2<=p.2:=fun j p l hpj=>jZ hp true (show k'<=j by omega) hq hpj
 have far2:∀(j:Nat)(p:Pt),k'+2<=j->ps[j]?=some p->y < p.2:=by
  intro j p l hpj;have hjl:=(Qx.mp hpj).1;have h1':ps[k'+1]?=some ps[k'+1]:=Qn (by omega)
  have h2':ps[k'+2]?=some ps[k'+2]:=Qn (by omega)
  have m1:q.2<=ps[k'+1].2:=far _ _ (Qh _) h1';have m2:ps[k'+1].2<=ps[k'+2].2:=jZ hp true (show k'+1<=k'+2 by omega) h1' h2'
  have m3:ps[k'+2].2<=p.2:=jZ hp true l h2' hpj;have nb:=zEt h.2 hq h1' h2'
  have:¬ (q.2=ps[k'+1].2/\ps[k'+1].2=ps[k'+2].2):=by
   rintro⟨z1,z2⟩
   rw[btw,z1,z2] at nb;have nb:=of_decide_eq_false nb;apply nb
   grind
  grind
 unfold kJ;symm;rw[zES he];symm;rw[xK hy ze.2 (by omega) h0 h1];symm;have e1':oT [.tup (ps.map dp),.int 1,dq y]=.ok (.v (dq a)):=e1;have e2':bT [.tup (ps.map dp),.int 1,dq y]=.ok (.v (.int (k':Int))):=e2;rw[e1'];symm;rw[e2'];symm;by_cases last:k'+1 < ps.length
 ·have hu:ps[k'+1]?=some ps[k'+1]:=Qn last
  have zu:=hs _ (Qi hu);have fu:q.2<=ps[k'+1].2:=far _ _ (Qh _) hu;generalize ps[k'+1]=u at hu zu fu;rw[show min ((k':Int)+1) ((ps.length:Int) - 1)=((k'+1:Nat):Int) by omega,oK (by omega) (by rw[QW];exact hu)];symm;by_cases cu:u.2=y
  ·rw[decide_eq_true cu]
   symm;have qy:q.2=y:=by grind
   have aq:a=q.1:=by
    rcases c with⟨_,c⟩ | ⟨_,c,_⟩
    ·exact c
    ·exact absurd (show y < q.2 from c) (by grind)
   exact⟨a,u.1,rfl,⟨k',q,hq,hj,far2,.inl ⟨qy,aq,.inl ⟨u,hu,cu,rfl⟩⟩⟩⟩
  ·rw[decide_eq_false cu]
   symm;refine⟨a,a,rfl,⟨k',q,hq,hj,far2,?_⟩⟩
   rcases c with⟨c1,c2⟩ | ⟨k0,c1,p,c2,c3,c4⟩
   ·refine .inl ⟨c1,c2,.inr ⟨fun v hv=>?_,c2⟩⟩
    rw[hu] at hv;cases hv;have:q.2=y:=c1
    grind
   ·exact .inr ⟨k0,c1,⟨p,c2,c3,c4⟩,rfl⟩
 ·have ek:k'=ps.length - 1:=by omega
  have qe:q=e:=by rw[ek,hla] at hq;cases hq;rfl
  rw[show min ((k':Int)+1) ((ps.length:Int) - 1)=((k':Nat):Int) by omega,oK (by omega) (by rw[QW];exact hq)];have no:∀ v:Pt,ps[k'+1]?=some v->y < v.2:=fun v hv=>by have:=(Qx.mp hv).1;omega
  symm;by_cases qy:q.2=y
  ·rw[decide_eq_true qy]
   symm
   have aq:a=q.1:=by
    rcases c with⟨_,c⟩ | ⟨_,c,_⟩
    ·exact c
    ·exact absurd (show y < q.2 from c) (by grind)
   exact⟨a,q.1,rfl,⟨k',q,hq,hj,far2,.inl ⟨qy,aq,.inr ⟨no,rfl⟩⟩⟩⟩
  ·rw[decide_eq_false qy]
   symm;refine⟨a,a,rfl,⟨k',q,hq,hj,far2,?_⟩⟩
   rcases c with⟨c1,c2⟩ | ⟨k0,c1,p,c2,c3,c4⟩
   ·exact absurd c1 qy
   ·exact .inr ⟨k0,c1,⟨p,c2,c3,c4⟩,rfl⟩
def wys:List Str:=["row", "back", "even", "lack", "part", "half"]
def wOK(w:Str)(ws:List Int)(m:Nat):Prop:=(w = "even" ∨ w = "lack")/\ws.length=m/\(∀ x∈ws,1<=x/\x<=10^6)∨¬ (w = "even" ∨ w = "lack")/\ws=[]
def IsC:Nat->D->Prop
 | 0,_=>False
 | n+1,d=>(∃ c:Int,d=.tup [.str "boat", .int c])∨∃(w:Str)(ws:List Int)(ks:List D),d=.tup [.str w,.tup (ws.map D.int),.tup ks]/\(w == "boat")=false/\0 < ks.length/\ks.length<=100/\ws.length<=100/\(w∈wys/\wOK w ws ks.length)/\∀ k∈ks,IsC n k
def clm:Nat->D->List Int
 | 0,_=>[]
 | n+1,d=>match d with
  | .tup [_,.int c]=>[c]
  | .tup [_,_,.tup ks]=>ks.flatMap (clm n)
  | _=>[]
def dpt:Nat->D->Int
 | 0,_=>0
 | n+1,d=>match d with
  | .tup [_,_,.tup ks]=>1+mx0 (ks.map (dpt n))
  | _=>1
theorem rB{c:Int}:cD [.tup [.str "boat", .int c]]=.ok (.v (.bl true)):=by
 unfold cD;symm
theorem nK{w:Str}{a b:D}(h:(w == "boat")=false):cD [.tup [.str w,a,b]]=.ok (.v (.bl false)):=by
 unfold cD;symm;rw[h]
theorem mY{w:Str}{a b:D}(h:(w == "boat")=false):cU [.tup [.str w,a,b]]=.ok (.v b):=by
 unfold cU;symm;rw[nK h];symm
theorem zIC{ks:List D}{n i:Nat}:((ks.take i).flatMap (clm n)).length<=(ks.flatMap (clm n)).length:=by
 conv=>rhs;rw[<-Yg i ks,Vv,Ql]
 exact Nat.le_add_right _ _
theorem zIz{ks:List D}{n:Nat}{k:D}(h:k∈ks):(clm n k).length<=(ks.flatMap (clm n)).length:=by
 obtain⟨a,b,rfl⟩:=List.append_of_mem h;rw[Vv,Vm,Ql,Ql];omega
theorem uM:∀(n:Nat)(d:D),IsC n d->(clm n d).length<=1000->fZ n [d]=.ok (.f ((clm n d).map D.int))
 | 0,d,h,_=>h.elim
 | n+1,d,h,hl=>by
  show lA (fZ n) [d]=_
  unfold lA;symm;rcases h with⟨c,rfl⟩ | ⟨w,ws,ks,rfl,hw,k0,k1,w1,hy,hk⟩
  ·rw[rB]
   symm;rfl
  ·rw[nK hw]
   symm;rw[mY hw];symm;refine mM (Q:=fun r=>r.bind fin=.ok (.f ((ks.flatMap (clm n)).map D.int))) (fun i ρ=>∃ a,ρ=[.val (.tup [.str w,.tup (ws.map D.int),.tup ks]),.own (((ks.take i).flatMap (clm n)).map D.int),a]) ⟨_,rfl⟩ ?_ ?_
   ·rintro i e ρ he ⟨a,rfl⟩
    have hm:=Qi he;have hl':(ks.flatMap (clm n)).length<=1000:=hl;have l1:=zIz (n:=n) hm;have l2:=zIC (ks:=ks) (n:=n) (i:=i);symm;rw[uM n e (hk e hm) (by omega)];symm;rw[if_pos (by omega)];refine⟨_,rfl,.val e,?_⟩
    rw[mV he,Vv,QG];simp[List.flatMap]
   ·rintro ρ' ⟨a,rfl⟩
    symm;rw[Vc]
theorem xG:∀(n:Nat)(d:D),IsC n d->dP n [d]=.ok (.v (.int (dpt n d)))
 | 0,d,h=>h.elim
 | n+1,d,h=>by
  show nJ (dP n) [d]=_
  unfold nJ;symm;rcases h with⟨c,rfl⟩ | ⟨w,ws,ks,rfl,hw,k0,k1,w1,hy,hk⟩
  ·symm
   rfl
  ·symm
   rw[hw];symm
   have e:=eT (u:=fun k=>k) (g:=fun k=>.int (dpt n k)) (l:=ks) (f:=aP (dP n) (aE (aH 1) aNil)) (ρ:=[.val (.tup [.str w,.tup (ws.map D.int),.tup ks])]) (by omega) (fun k hm=>by
    symm;rw[xG n k (hk k hm)]
    symm)
   rw[List.map_id'] at e;rw[e];symm;rw[zBq k0];symm;rfl
def dOK:Nat->D->Prop
 | 0,_=>False
 | n+1,d=>(∃ i,d=.int i)∨(∃ x,d=.str x)∨∃ ds,d=.tup ds/\ds.length<=1000/\∀ e∈ds,dOK n e
theorem zKd:∀ {n m:Nat} {d:D},dOK n d->n<=m->dOK m d
 | 0,_,_,h,_=>h.elim
 | n+1,0,_,_,l=>absurd l (by omega)
 | n+1,m+1,d,h,l=>by
  rcases h with h | h | ⟨ds,rfl,hl,he⟩
  ·exact .inl h
  ·exact .inr (.inl h)
  ·exact .inr (.inr ⟨ds,rfl,hl,fun e h=>zKd (he e h) (by omega)⟩)
theorem zHT:∀(n:Nat)(d:D),IsC n d->dOK (2 * n+1) d
 | 0,d,h=>h.elim
 | n+1,d,h=>by
  rcases h with⟨c,rfl⟩ | ⟨w,ws,ks,rfl,hw,k0,k1,w1,hy,hk⟩
  ·refine .inr (.inr ⟨_,rfl,by simp,fun e he=>?_⟩)
   rcases Qe.mp he with rfl | he
   ·exact .inr (.inl ⟨_,rfl⟩)
   ·rw[Qu.mp he];exact .inl ⟨_,rfl⟩
  ·refine .inr (.inr ⟨_,rfl,by simp,fun e he=>?_⟩)
   rcases Qe.mp he with rfl | he
   ·exact .inr (.inl ⟨_,rfl⟩)
   ·rcases Qe.mp he with rfl | he
    ·refine .inr (.inr ⟨_,rfl,by rw[Qg];omega,fun x hx=>?_⟩)
     obtain⟨i,_,rfl⟩:=Qp.mp hx;exact .inl ⟨_,rfl⟩
    ·rw[Qu.mp he]
     exact .inr (.inr ⟨_,rfl,by omega,fun x hx=>zHT n x (hk x hx)⟩)
theorem zCP:∀(n:Nat)(d:D),dOK n d->noL d=true
 | 0,d,h=>h.elim
 | n+1,d,h=>by
  rcases h with⟨i,rfl⟩ | ⟨x,rfl⟩ | ⟨ds,rfl,hl,he⟩
  ·simp[noL]
  ·simp[noL]
  ·rw[noL]
   clear hl
   induction ds with
   | nil=>rfl
   | cons a r ih=>rw[noLs,zCP n a (he a Qb),ih fun e h=>he e (Qc _ h)];rfl
theorem oV:∀ {n m:Nat} {d:D},IsC n d->n<=m->IsC m d
 | 0,_,_,h,_=>h.elim
 | n+1,0,_,_,l=>absurd l (by omega)
 | n+1,m+1,d,h,l=>by
  rcases h with h | ⟨w,ws,ks,rfl,hw,k0,k1,w1,hy,hk⟩
  ·exact .inl h
  ·exact .inr ⟨w,ws,ks,rfl,hw,k0,k1,w1,hy,fun k h=>oV (hk k h) (by omega)⟩
theorem nH:∀ {n m:Nat} {d:D},IsC n d->n<=m->clm m d=clm n d
 | 0,_,_,h,_=>h.elim
 | n+1,0,_,_,l=>absurd l (by omega)
 | n+1,m+1,d,h,l=>by
  rcases h with⟨c,rfl⟩ | ⟨w,ws,ks,rfl,hw,k0,k1,w1,hy,hk⟩
  ·rfl
  ·show ks.flatMap (clm m)=ks.flatMap (clm n)
   rw[Xv,Xv];congr 1
   exact Q5 fun k h=>nH (hk k h) (by omega)
theorem zDX:∀ {n m:Nat} {d:D},IsC n d->n<=m->dpt m d=dpt n d
 | 0,_,_,h,_=>h.elim
 | n+1,0,_,_,l=>absurd l (by omega)
 | n+1,m+1,d,h,l=>by
  rcases h with⟨c,rfl⟩ | ⟨w,ws,ks,rfl,hw,k0,k1,w1,hy,hk⟩
  ·rfl
  ·show 1+mx0 (ks.map (dpt m))=1+mx0 (ks.map (dpt n))
   rw[Q5 fun k h=>zDX (hk k h) (by omega)]
theorem zPx:∀ {l:List Int} {b:Int},0<=b->(∀ x∈l,x<=b)->mx0 l<=b
 | [],b,h,_=>h
 | a::r,b,_,h=>by
  have key:∀(r:List Int)(a:Int),a<=b->(∀ x∈r,x<=b)->zAI a r<=b:=by
   intro r
   induction r with
   | nil=>intro a ha _;exact ha
   | cons c r ih=>
    intro a ha hr;rw[zAI];refine ih _ ?_ fun x hx=>hr x (Qc _ hx)
    split
    ·exact hr c Qb
    ·exact ha
  exact key r a (h a Qb) fun x hx=>h x (Qc _ hx)
theorem zGe:∀ {l:List Int} {x:Int},x∈l->x<=mx0 l
 | [],_,h=>by cases h
 | a::r,x,h=>by
  have key:∀(r:List Int)(a:Int),a<=zAI a r/\∀ x∈r,x<=zAI a r:=by
   intro r
   induction r with
   | nil=>intro a;exact⟨V3 _,fun x h=>by cases h⟩
   | cons c r ih=>
    intro a;rw[zAI];have h1:=ih (if c > a then c else a);refine⟨QV ?_ h1.1,fun x hx=>?_⟩
    ·split<;>omega
    ·rcases Qe.mp hx with rfl | hx
     ·refine QV ?_ h1.1;split<;>omega
     ·exact h1.2 x hx
  rcases Qe.mp h with rfl | h
  ·exact(key r x).1
  ·exact(key r a).2 x h
theorem zHG:∀ {n:Nat} {d:D},IsC n d->1<=dpt n d/\dpt n d<=n
 | 0,_,h=>h.elim
 | n+1,d,h=>by
  rcases h with⟨c,rfl⟩ | ⟨w,ws,ks,rfl,hw,k0,k1,w1,hy,hk⟩
  ·exact⟨by show(1:Int)<=1;omega,by show(1:Int)<=_;omega⟩
  ·have h1:mx0 (ks.map (dpt n))<=n:=zPx (by omega) fun x hx=>by
    obtain⟨k,hk',rfl⟩:=Qp.mp hx;exact(zHG (hk k hk')).2
   have h2:0<=mx0 (ks.map (dpt n)):=by
    cases ks with
    | nil=>cases k0
    | cons k r=>exact QV (by have:=(zHG (hk k Qb)).1;omega) (zGe (x:=dpt n k) (by simp))
   exact⟨by show 1<=1+mx0 (ks.map (dpt n));omega,by show 1+mx0 (ks.map (dpt n))<=((n+1:Nat):Int);omega⟩
theorem zMw{w:Str}(h:w∈wys):(aX.lookup w).isSome=true/\(w == "boat")=false:=by
 simp only[wys,Qe,V0,or_false] at h;rcases h with rfl | rfl | rfl | rfl | rfl | rfl<;>decide
theorem zQi{w:Str}:oIn (.str w) (.tup [.str "even", .str "lack"])=.ok (.bl (decide (w = "even" ∨ w = "lack"))):=by
 show(if depS [D.str "even", D.str "lack"]<=50 then Res.ok (D.bl (((Str.ofString "even")==w) || (((Str.ofString "lack")==w) || false))) else .no)=_
 rw[if_pos (by decide),Bool.or_false];congr 2
 by_cases h1:w = "even"
 ·subst h1;decide
 ·by_cases h2:w = "lack"
  ·subst h2;decide
  ·rw[decide_eq_false (fun h=>h.elim h1 h2),beq_eq_false_iff_ne.mpr (Ne.symm h1),beq_eq_false_iff_ne.mpr (Ne.symm h2)];rfl
structure Pl (L:List (D×Int)) (boats:Int):Prop where
 each:∀ p∈L,1<=p.2/\p.2<=7/\IsC p.2.toNat p.1
 few:((L.flatMap fun p=>clm 7 p.1).length:Int)<=boats
 most:boats<=12
 rng:∀ c∈(L.flatMap fun p=>clm 7 p.1),0<=c/\c<=10^9
theorem zGQ:∀ {l:List D},(∀ d∈l,noL d=true)->noLs l=true
 | [],_=>rfl
 | a::r,h=>by rw[noLs,h a Qb,zGQ fun d hd=>h d (Qc _ hd)];rfl
theorem zKy:∀ {n:Nat} {d:D},dOK n d->dep d<=n
 | 0,_,h=>h.elim
 | n+1,d,h=>by
  rcases h with⟨i,rfl⟩ | ⟨x,rfl⟩ | ⟨ds,rfl,hl,he⟩
  ·simp[dep]
  ·simp[dep]
  ·rw[dep]
   clear hl
   have:depS ds<=n:=by
    induction ds with
    | nil=>simp[depS]
    | cons a r ih=>
     rw[depS];exact Nat.max_le.mpr ⟨zKy (he a Qb),ih fun e h=>he e (Qc _ h)⟩
   omega
theorem zIw{n:Nat}:∀ {ds:List D},(∀ d∈ds,dOK n d)->depS ds<=n
 | [],_=>by simp[depS]
 | a::r,h=>by rw[depS];exact Nat.max_le.mpr ⟨zKy (h a Qb),zIw fun e he=>h e (Qc _ he)⟩
theorem zKL{l:List D}(h:∀ d∈l,dOK 15 d):oEq (.lst l) (.lst [])=.ok (.bl (decide (l.length=0)))/\oNe (.lst l) (.lst [])=.ok (.bl (!decide (l.length=0))):=by
 have hd:dep (.lst l)<=50:=by rw[dep];have:=zIw h;omega
 have e:eqD (.lst l) (.lst [])=decide (l.length=0):=by cases l<;>simp[eqD,zFY]
 unfold oEq oNe;rw[if_pos hd,if_pos hd,e];exact⟨rfl,rfl⟩
theorem zMV{w:Str}(h:w∈wys):∃ v:Wy,v.s=w:=by
 unfold wys at h;rcases Qe.mp h with rfl | h
 ·exact⟨.row,rfl⟩
 rcases Qe.mp h with rfl | h
 ·exact⟨.back,rfl⟩
 rcases Qe.mp h with rfl | h
 ·exact⟨.even,rfl⟩
 rcases Qe.mp h with rfl | h
 ·exact⟨.lack,rfl⟩
 rcases Qe.mp h with rfl | h
 ·exact⟨.part,rfl⟩
 ·rw[Qu.mp h];exact⟨.half,rfl⟩
theorem zLn{v:Wy}{ws cs:List Int}(h:wOK v.s ws cs.length):v.due ws cs:=by
 have k:¬ (v.s = "even" ∨ v.s = "lack")->ws=[]:=fun hn=>by
  rcases h with⟨a,_⟩ | ⟨_,b⟩
  ·exact absurd a hn
  ·exact b
 have k2:(v.s = "even" ∨ v.s = "lack")->Wt ws cs:=fun hy=>by
  rcases h with⟨_,b,c⟩ | ⟨a,_⟩
  ·exact⟨b,fun x hx=>(c x hx).1,fun x hx=>(c x hx).2⟩
  ·exact absurd hy a
 cases v with
 | even=>exact k2 (.inl rfl)
 | lack=>exact k2 (.inr rfl)
 | row=>exact k (by decide)
 | back=>exact k (by decide)
 | part=>exact k (by decide)
 | half=>exact k (by decide)
def Gc(n:Nat)(d:D):Prop:=IsC n d/\(clm n d).length<=12/\∀ c∈clm n d,0<=c/\c<=10^9
theorem zLr:∀ {l:List Int},(∀ c∈l,0<=c/\c<=10^9)->0<=l.sum/\l.sum<=l.length * 10^9
 | [],_=>by decide
 | c::r,h=>by
  have ih:=zLr fun x hx=>h x (Qc _ hx)
  have a:=h c Qb;rw[QE,Qm];have:((r.length+1:Nat):Int) * 10^9=(r.length:Int) * 10^9+10^9:=by rw[V4,V5];rfl
  omega
theorem Gc.sum{n:Nat}{d:D}(h:Gc n d):0<=(clm n d).sum/\(clm n d).sum<=12 * 10^9:=by
 have:=zLr h.2.2
 have:=h.2.1
 omega
theorem zDQ{n:Nat}:∀ ks:List D,(ks.map fun k=>(clm n k).sum).sum=(ks.flatMap (clm n)).sum
 | []=>rfl
 | k::r=>by rw[Qv,QE,zDQ r,Vm,Vt]
theorem zDo:∀ {n:Nat} {d:D},IsC n d->1<=(clm n d).length
 | 0,_,h=>h.elim
 | n+1,d,h=>by
  rcases h with⟨c,rfl⟩ | ⟨w,ws,ks,rfl,hw,k0,k1,w1,hy,hk⟩
  ·exact Qh 1
  ·cases ks with
   | nil=>simp at k0
   | cons k r=>
    have:=zDo (hk k Qb)
    show 1<=((k::r).flatMap (clm n)).length
    rw[Vm,Ql];omega
theorem zEh{n:Nat}:∀ {ks:List D},(∀ k∈ks,IsC n k)->ks.length<=(ks.flatMap (clm n)).length
 | [],_=>Vd _
 | k::r,h=>by
  have a:=zDo (h k Qb);have b:=zEh fun x hx=>h x (Qc _ hx)
  rw[Qm,Vm,Ql];omega
theorem zOB{n:Nat}{ks:List D}{k:D}(hk:k∈ks){c:Int}(hc:c∈clm n k):c∈ks.flatMap (clm n):=List.mem_flatMap.mpr ⟨k,hk,hc⟩
theorem Gc.kid{n:Nat}{w:D}{a ks:List D}(h:Gc (n+1) (.tup [w,.tup a,.tup ks]))(hi:∀ k∈ks,IsC n k){k:D}(hk:k∈ks):Gc n k:=
 ⟨hi k hk,QB (zIz hk) h.2.1,fun c hc=>h.2.2 c (zOB hk hc)⟩
def kcl(n:Nat)(ks:List D):List Int:=ks.map fun k=>(clm n k).sum
theorem jV(n:Nat)(ks:List D):(kcl n ks).length=ks.length:=Qg ..
theorem Gc.cl{n:Nat}{w:D}{a ks:List D}(h:Gc (n+1) (.tup [w,.tup a,.tup ks]))(hi:∀ k∈ks,IsC n k)(h0:0 < ks.length):Cl (kcl n ks):=by
 have b:∀ c∈kcl n ks,0<=c/\c<=12 * 10^9:=fun c hc=>by
  obtain⟨k,hk,rfl⟩:=Qp.mp hc;exact(h.kid hi hk).sum
 have l:(ks.flatMap (clm n)).length<=12:=h.2.1;have:=zEh hi
 exact⟨fun c hc=>(b c hc).1,fun c hc=>by have:=(b c hc).2;omega,by rw[jV];omega,by rw[jV];omega⟩
def ShL(P:D->Rat->List Rat->Prop):List D->(Nat->Rat)->Nat->List Rat->Prop
 | [],_,_,xs=>xs=[]
 | k::ks,f,i,xs=>∃ a b,xs=a++b/\P k (f i) a/\ShL P ks f (i+1) b
def Sh:Nat->D->Rat->List Rat->Prop
 | 0,_,_,_=>False
 | n+1,d,q,xs=>(∃ c:Int,d=.tup [.str "boat", .int c]/\xs=[q])∨∃(v:Wy)(ws:List Int)(ks:List D)(f:Nat->Rat),d=.tup [.str v.s,.tup (ws.map D.int),.tup ks]/\v.due ws (kcl n ks)/\Al 3000 ws (kcl n ks) q f v/\ShL (Sh n) ks f 0 xs
theorem zGA{P:D->Rat->List Rat->Prop}{n:Nat}{f:Nat->Rat}:∀ {ks:List D} {i:Nat} {xs:List Rat},(∀ k∈ks,∀ q xs,P k q xs->xs.length=(clm n k).length)->ShL P ks f i xs->xs.length=(ks.flatMap (clm n)).length
 | [],i,xs,_,h=>by rw[show xs=[] from h];rfl
 | k::r,i,xs,hp,h=>by
  obtain⟨a,b,rfl,ha,hb⟩:=h;rw[Ql,hp k Qb _ _ ha,zGA (fun x hx=>hp x (Qc _ hx)) hb,Vm,Ql]
theorem zLh:∀ {n:Nat} {d:D} {q:Rat} {xs:List Rat},Sh n d q xs->xs.length=(clm n d).length
 | 0,_,_,_,h=>h.elim
 | n+1,d,q,xs,h=>by
  rcases h with⟨c,rfl,rfl⟩ | ⟨v,ws,ks,f,rfl,hd,al,hs⟩
  ·rfl
  ·exact zGA (fun k _ q xs h=>zLh h) hs
theorem zEr{a:D}{l:List D}:iK [.tup (a::l)]=.ok (.v a):=by
 unfold iK;symm
theorem rX{a b:D}{l:List D}:cP [.tup (a::b::l)]=.ok (.v b):=by
 unfold cP;symm
theorem qY{n:Nat}{d:D}(h:IsC n d)(hn:n<=10)(hl:(clm n d).length<=1000):dO [d]=.ok (.v (.int (clm n d).sum)):=by
 have e:=nH h hn;unfold dO;symm;rw[uM 10 d (oV h hn) (by rw[e];exact hl)];symm;rw[e]
theorem sE{n:Nat}{w:Str}{a:D}{ks:List D}(hw:(w == "boat")=false)(hi:∀ k∈ks,IsC n k)(hn:n<=10)(hl:(ks.flatMap (clm n)).length<=1000):cS [.tup [.str w,a,.tup ks]]=.ok (.f ((kcl n ks).map D.int)):=by
 unfold cS;symm;rw[mY hw];symm
 rw[zCh (h:=fun k=>D.int (clm n k).sum) (by have:=zEh hi;omega) (fun k hk=>by
  symm;rw[qY (hi k hk) hn (QB (zIz hk) hl)]
  symm)]
 symm;unfold kcl;rw[Qw];rfl
theorem zKE(cs:List Int):Sq (.lst (cs.map D.int)) cs:=.inl rfl
theorem xI:∀(n N m:Nat)(d:D)(q:Rat),Gc n d->n<=N->n<=9->0<=q->q<=((clm n d).sum:Rat)->(q.den:Int) < 2^m->m+34 * n<=2000->∃ xs,fG N [d,dq q]=.ok (.f (xs.map dq))/\Sh n d q xs
 | 0,_,_,_,_,h,_,_,_,_,_,_=>h.1.elim
 | n+1,0,_,_,_,_,hN,_,_,_,_,_=>by omega
 | n+1,N+1,m,d,q,g,hN,hn,q0,q1,qd,hm=>by
  rcases g.1 with⟨c,rfl⟩ | ⟨w,ws,ks,rfl,hw,k0,k1,w1,hy,hk⟩
  ·refine⟨[q],?_,.inl ⟨c,rfl,rfl⟩⟩
   show iO (fG N) _=_
   unfold iO;symm;rw[rB];symm
  ·obtain⟨v,rfl⟩:=zMV hy.1
   have cl:=g.cl hk k0;have l12:(ks.flatMap (clm n)).length<=12:=g.2.1;have hs:(kcl n ks).sum=(clm (n+1) (.tup [.str v.s,.tup (ws.map D.int),.tup ks])).sum:=zDQ ks;have gs:=g.sum;have due:v.due ws (kcl n ks):=zLn (by rw[jV];exact hy.2)
   have sq:Sz (34+m) q:=(Dn.den q).sz (fB q) qd q0 q1 (by omega)
   have hl:Haul (34+m) q (kcl n ks).sum:=⟨q0,by rw[hs];exact q1,sq⟩
   obtain⟨f,ef,af⟩:=zNg (wd:=.tup (ws.map D.int)) (.inr rfl) (zKE (kcl n ks)) (by omega) due cl hl
   have df:=zMR due cl hl af;have hS:(kcl n ks).sum < 2^34:=by rw[hs];omega
   obtain⟨E,e0,e1,e2⟩:=zOJ due cl hS af (Dn.den q)
   have dk:∀ i,i < ks.length->((f i).den:Int) < 2^(m+34):=fun i hi=>by
    have a:=(e2 i (by rw[jV];exact hi)).le (Xq (fB q) e0)
    have b:(q.den:Int) * E < 2^m * 2^34:=Int.mul_lt_mul qd (VJ e1) e0 (VJ (Xb (by decide)))
    rw[Yh];omega
   have loopOk:∀(js:List D)(i:Nat)(acc:List Rat)(s t:Sl),(∀ k∈js,k∈ks)->i+js.length=ks.length->ks.drop i=js->acc.length+(js.flatMap (clm n)).length<=12->∃ xs s' t',ShL (Sh n) js f i xs/\
     gO (zHv (nM (gName 4) (nM (gName 5) zIA))) (sC (fG N)) (jT js ((List.range' i js.length).map fun j=>dq (f j))) [.val (.tup [.str v.s,.tup (ws.map D.int),.tup ks]),.val (dq q),.val (.lst (((List.range (kcl n ks).length).map f).map dq)),.own (acc.map dq),s,t]=
      .ok (.nx [.val (.tup [.str v.s,.tup (ws.map D.int),.tup ks]),.val (dq q),.val (.lst (((List.range (kcl n ks).length).map f).map dq)),.own ((acc++xs).map dq),s',t']):=by
    intro js
    induction js with
    | nil=>intro i acc s t _ _ _ _;exact⟨[],s,t,rfl,by rw[QS];rfl⟩
    | cons k r ih=>
     intro i acc s t hm' hl' hd' ha;have hik:i < ks.length:=by rw[Qm] at hl';omega
     have ik:k∈ks:=hm' k Qb;have gk:=g.kid hk ik;have fk:=df.bd i (by rw[jV];exact hik)
     have ck:cR (kcl n ks) i=((clm n k).sum:Rat):=by
      unfold cR kcl
      have:ks[i]?=some k:=by
       have:=Yf (xs:=ks) (i:=i) (j:=0)
       rw[hd'] at this;simpa using this.symm
      rw[Qy,Qt,this];rfl
     obtain⟨xs,ex,sx⟩:=xI n N (m+34) k (f i) gk (by omega) (by omega) fk.1 (by rw[<-ck];exact fk.2.1) (dk i hik) (by omega)
     have lx:=zLh sx;rw[Vm,Ql] at ha;obtain⟨ys,s',t',sy,ey⟩:=ih (i+1) (acc++xs) (.val k) (.val (dq (f i))) (fun x hx=>hm' x (Qc _ hx)) (by rw[Qm] at hl';omega) (by rw[<-List.drop_drop,hd'];rfl) (by rw[Ql];omega)
     refine⟨xs++ys,s',t',⟨xs,ys,rfl,sx,sy⟩,?_⟩
     rw[Qm,List.range'_succ,Qv,show jT (k::r) (dq (f i)::(List.range' (i+1) r.length).map fun j=>dq (f j))=.tup [k,dq (f i)]::jT r ((List.range' (i+1) r.length).map fun j=>dq (f j)) from rfl]
     rw[dL (ρ1:=[.val (.tup [.str v.s,.tup (ws.map D.int),.tup ks]),.val (dq q),.val (.lst (((List.range (kcl n ks).length).map f).map dq)),.own (acc.map dq),.val k,.val (dq (f i))]) (ρ2:=[.val (.tup [.str v.s,.tup (ws.map D.int),.tup ks]),.val (dq q),.val (.lst (((List.range (kcl n ks).length).map f).map dq)),.own ((acc++xs).map dq),.val k,.val (dq (f i))]) (by symm) (by
      symm;rw[ex];symm
      rw[if_pos (by omega),QG]),ey,Q9]
   obtain⟨xs,s',t',sx,ex⟩:=loopOk ks 0 [] .un .un (fun k h=>h) (by omega) rfl (by rw[Xd];omega)
   refine⟨xs,?_,.inr ⟨v,ws,ks,f,rfl,due,af.mono (by omega),sx⟩⟩
   show iO (fG N) _=_
   unfold iO;symm;rw[nK hw];symm;rw[zEr];symm;rw[rX];symm;rw[sE hw hk (by omega) (by omega)];symm;rw[ef];symm;rw[mY hw];symm;rw[oG rfl rfl,show((List.range (kcl n ks).length).map f).map dq=(List.range' 0 ks.length).map fun j=>dq (f j) by rw[Qw,jV,Yi];rfl];symm;rw[show((List.range (kcl n ks).length).map f).map dq=(List.range' 0 ks.length).map fun j=>dq (f j) by rw[Qw,jV,Yi];rfl] at ex;rw[Vo] at ex;rw[ex];rfl
theorem zJM{n m:Nat}{d:D}{q:Rat}(g:Gc n d)(hn:n<=9)(q0:0<=q)(q1:q<=((clm n d).sum:Rat))(qd:(q.den:Int) < 2^m)(hm:m+34 * n<=2000):∃ xs,jR [d,dq q]=.ok (.f (xs.map dq))/\Sh n d q xs:=by
 have gs:=g.sum;obtain⟨xs,ex,sx⟩:=xI n 10 m d q g (by omega) hn q0 q1 qd hm
 refine⟨xs,?_,sx⟩
 have sq:Sz (34+m) q:=(Dn.den q).sz (fB q) qd q0 q1 (by omega)
 unfold jR;symm;rw[qY g.1 (by omega) (by have:=g.2.1;omega)];symm;rw[bV];symm;rw[lF (by omega) ⟨q0,q1,sq⟩ (by omega)];symm;rw[ex];symm
theorem qT{t b:Int}{n:Nat}(hb0:b≠0)(hn:b.natAbs < 2^n)(h:n<=8999):eH [.int t,.int b]=.ok (.v (dq (Rat.divInt t b))):=by
 have hd:lP (dv t b)=true:=sT (zPu hb0) (Vp (zPB hb0) hn) h;unfold eH;symm
 refine zEX (fun ρ=>∃(x y:Int)(r:Sl),ρ=[.val (.int t),.val (.int b),.val (.int x),.val (.int y),r]/\0<=x/\0<=y/\Int.gcd x y=Int.gcd t b) (fun ρ=>(slI 3 ρ).toNat)
  (fun r=>(r.bind (zJo rS)).bind fin=.ok (.v (dq (Rat.divInt t b)))) ⟨_,_,_,rfl,by omega,by omega,by simp[Int.gcd]⟩ ?_
 rintro ρ ⟨x,y,r,rfl,hx,hy,hg⟩
 by_cases c:y=0
 ·subst c
  have e2:x=(Int.gcd t b:Int):=by
   rw[Int.gcd_zero_right] at hg;omega
  subst e2;refine .inl ⟨rfl,?_⟩
  symm;by_cases c:b < 0
  ·have e:0 - (Int.gcd t b:Int)=dv t b:=by unfold dv;rw[if_pos c];omega
   rw[decide_eq_true c];symm;rw[e,oDiv_i hd];symm;rw[oDiv_i hd];symm;rw[xR hb0,xN hb0];rfl
  ·have e:(Int.gcd t b:Int)=dv t b:=by unfold dv;rw[if_neg c]
   rw[decide_eq_false c];symm;rw[e,oDiv_i hd];symm;rw[oDiv_i hd];symm;rw[xR hb0,xN hb0];rfl
 ·have hp:0 < y:=by omega
  refine .inr ⟨?_,[.val (.int t),.val (.int b),.val (.int y),.val (.int (x % y)),.val (.int (x % y))],?_,⟨y,x % y,_,rfl,hy,QN _ c,(zDY hx hp).trans hg⟩,?_⟩
  ·symm
   rw[decide_eq_true hp]
  ·symm
   rw[oMod_i c,fmod_pos _ hp];symm
  ·have:=QO x hp
   show(x % y).toNat < y.toNat
   omega
theorem zFq{p q:Rat}{m n:Nat}(hp:Sz m p)(hq:Sz n q)(h:m+n<=8999):kE [dq p,dq q]=.ok (.v (dq (p+q))):=by
 unfold kE;symm;rw[oMul_i (bW hp.1 hq.d (by omega))];symm;rw[oMul_i (bW hq.1 hp.d (by omega))];symm;rw[oMul_i (bW hp.d hq.d (by omega))];symm;rw[qT (Vj (eM p) (eM q)) (fM hp.d hq.d) h,zIO];symm
theorem zDe{p q:Rat}{m n:Nat}(hp:Sz m p)(hq:Sz n q)(h:m+n<=8999):iR [dq p,dq q]=.ok (.v (dq (p * q))):=by
 unfold iR;symm;rw[oMul_i (bW hp.1 hq.1 (by omega))];symm;rw[oMul_i (bW hp.d hq.d (by omega))];symm;rw[qT (Vj (eM p) (eM q)) (fM hp.d hq.d) h,zHw];symm
theorem nI{p q:Rat}{m n:Nat}(hp:Sz m p)(hq:Sz n q)(h:m+n<=99999):fH [dq p,dq q]=.ok (.v (.bl (decide (p < q)))):=by
 unfold fH;symm;rw[oMul_i (bW hp.1 hq.d (by omega))];symm;rw[oMul_i (bW hq.1 hp.d (by omega))];symm;simp only[lt_iff]
theorem zQC{v v':Wy}(h:v.s=v'.s):v=v':=by cases v<;>cases v'<;>first | rfl | exact absurd h (by decide)
open Classical in
def wyS(w:Str):Wy:=if h:∃ v:Wy,v.s=w then Classical.choose h else .row
theorem zQx(v:Wy):wyS v.s=v:=by
 have h:∃ u:Wy,u.s=v.s:=⟨v,rfl⟩;unfold wyS;rw[dif_pos h];exact zQC (Xt h)
def zPT(l:List D):List Int:=l.map fun d=>match d with | .int i=>i | _=>0
theorem zJG(ws:List Int):zPT (ws.map D.int)=ws:=by
 unfold zPT;rw[Qw];exact List.map_id _
def SFL(g:D->Rat->List Rat)(f:Nat->Rat):List D->Nat->List Rat
 | [],_=>[]
 | k::ks,i=>g k (f i)++SFL g f ks (i+1)
def SF:Nat->D->Rat->List Rat
 | 0,_,_=>[]
 | n+1,d,q=>match d with
  | .tup [.str w,.tup a,.tup ks]=>SFL (SF n) (FF (wyS w) (zPT a) (kcl n ks) q) ks 0
  | _=>[q]
theorem zDI(n:Nat)(v:Wy)(ws:List Int)(ks:List D)(q:Rat):SF (n+1) (.tup [.str v.s,.tup (ws.map D.int),.tup ks]) q=SFL (SF n) (FF v ws (kcl n ks) q) ks 0:=by
 show SFL (SF n) (FF (wyS v.s) (zPT (ws.map D.int)) (kcl n ks) q) ks 0=_
 rw[zQx,zJG]
theorem zHa(g:D->Rat->List Rat)(f:Nat->Rat):∀(a b:List D)(i:Nat),SFL g f (a++b) i=SFL g f a i++SFL g f b (i+a.length)
 | [],b,i=>rfl
 | k::a,b,i=>by
  show g k (f i)++SFL g f (a++b) (i+1)=(g k (f i)++SFL g f a (i+1))++_
  rw[zHa g f a b (i+1),Q9,Qm,show i+1+a.length=i+(a.length+1) by omega]
theorem zDi{n:Nat}{f:Nat->Rat}:∀ {ks:List D} {i:Nat},(∀ k∈ks,∀ q,(SF n k q).length=(clm n k).length)->(SFL (SF n) f ks i).length=(ks.flatMap (clm n)).length
 | [],i,_=>rfl
 | k::r,i,h=>by
  show(SF n k (f i)++SFL (SF n) f r (i+1)).length=_
  rw[Ql,h k Qb,zDi fun x hx=>h x (Qc _ hx),Vm,Ql]
theorem zGz:∀ {n:Nat} {d:D},IsC n d->∀ q:Rat,(SF n d q).length=(clm n d).length
 | 0,_,h,_=>h.elim
 | n+1,d,h,q=>by
  rcases h with⟨c,rfl⟩ | ⟨w,ws,ks,rfl,hw,k0,k1,w1,hy,hk⟩
  ·rfl
  ·obtain⟨v,rfl⟩:=zMV hy.1
   rw[zDI];exact zDi fun k hm q=>zGz (hk k hm) q
theorem zLe{n:Nat}{ks:List D}{j:Nat}{k:D}(h:ks[j]?=some k):j < (kcl n ks).length/\cR (kcl n ks) j=((clm n k).sum:Rat):=by
 have hj:=(Qx.mp h).1;refine⟨by rw[jV];exact hj,?_⟩
 unfold cR kcl;rw[Qy,Qt,h];rfl
theorem zLq{P:D->Rat->List Rat->Prop}{n:Nat}{f g:Nat->Rat}:∀ {ks:List D} {i:Nat} {xs:List Rat},(∀ k∈ks,∀ q xs,P k q xs->0<=q->q<=((clm n k).sum:Rat)->xs=SF n k q)->(∀ j k,ks[j]?=some k->f (i+j)=g (i+j)/\0<=f (i+j)/\f (i+j)<=((clm n k).sum:Rat))->ShL P ks f i xs->xs=SFL (SF n) g ks i
 | [],i,xs,_,_,h=>h
 | k::r,i,xs,hp,hf,h=>by
  obtain⟨a,b,rfl,ha,hb⟩:=h;have f0:=hf 0 k rfl;rw[Nat.add_zero] at f0
  rw[hp k Qb _ _ ha f0.2.1 f0.2.2,zLq (fun x hx=>hp x (Qc _ hx)) (fun j k' hj=>by
   have:=hf (j+1) k' (by simpa using hj)
   rw[show i+1+j=i+(j+1) by omega];exact this) hb,f0.1]
  rfl
theorem zOl:∀ {n:Nat} {d:D} {q:Rat} {xs:List Rat},Gc n d->Sh n d q xs->0<=q->q<=((clm n d).sum:Rat)->xs=SF n d q
 | 0,_,_,_,g,_,_,_=>g.1.elim
 | n+1,d,q,xs,g,h,q0,q1=>by
  rcases h with⟨c,rfl,rfl⟩ | ⟨v,ws,ks,f,rfl,hd,al,hs⟩
  ·rfl
  ·rcases g.1 with⟨c,e⟩ | ⟨w,ws',ks',e,hw,k0,k1,w1,hy,hk⟩
   ·simp at e
   simp only[D.tup.injEq,List.cons.injEq,and_true] at e;obtain⟨e1,e2,rfl⟩:=e;have cl:=g.cl hk k0;have se:(kcl n ks).sum=(clm (n+1) (.tup [.str v.s,.tup (ws.map D.int),.tup ks])).sum:=zDQ ks;have q1':q<=((kcl n ks).sum:Rat):=by rw[se];exact q1
   obtain⟨b1,b2⟩:=zNM hd cl q0 q1' al;rw[zDI];refine zLq (P:=Sh n) (fun k hm q xs h1 h2 h3=>zOl (g.kid hk hm) h1 h2 h3) (fun j k hj=>?_) hs
   obtain⟨j1,j2⟩:=zLe (n:=n) hj;rw[VS,<-j2];exact⟨zCe hd cl q0 q1' al j1,b1 j j1⟩
theorem zPO{ws cs:List Int}(h:Wt ws cs){t y:Rat}{i:Nat}(hi:i < cs.length)(e:cR ws i * t=y){B:Int}(hB:Dn B y):Dn (B * ws.getD i 0) (QQ ws cs t):=by
 obtain⟨F,W,e1,w0,w1,w2⟩:=tV (c:=cR cs) (w:=cR ws) (ci:=fun i=>cs.getD i 0) (wi:=fun i=>ws.getD i 0) (t:=t) (fun _=>rfl) (fun _=>rfl) (List.range cs.length) (fun j hj=>h.at (Qj.mp hj))
 obtain⟨k,hk⟩:=hB;refine⟨W * k+F * (B * ws.getD i 0),?_⟩
 have q:QQ ws cs t=(W:Rat) * t+(F:Rat):=e1;rw[q,QX,QJ,QJ,QJ,<-hk,<-e];unfold cR;grind
theorem zGJ{cs:List Int}(hc:Cl cs){q y:Rat}(q0:0<=q)(q1:q<=(cs.sum:Rat)){i:Nat}(hi:i < cs.length)(e:FF .row [] cs q i=y)(y0:0 < y)(y1:y < cR cs i){B:Int}(hB:Dn B y):Dn B q:=by
 rw[<-zCe (M:=0) (w:=.row) (ws:=[]) (f:=zDW cs q) rfl hc q0 q1 (fun i _=>rfl) hi] at e;have f:zDW cs q i=mn (ps0 (q - ((0+(cs.take i).sum:Int):Rat))) (cR cs i):=zAB cs 0 q i hi;rw[f] at e
 have:q=y+((0+(cs.take i).sum:Int):Rat):=by
  unfold mn ps0 at e;grind
 rw[this];exact hB.add (Dn.int B _)
theorem zNy{ws cs:List Int}(h:Wt ws cs)(hc:Cl cs){t:Rat}(t0:0<=t)(q1:QQ ws cs t<=(cs.sum:Rat))(q0:0<=QQ ws cs t){i:Nat}(hi:i < cs.length):FF .even ws cs (QQ ws cs t) i=dS (cR cs) (cR ws) t i:=by
 obtain⟨M,hM⟩:=zGO cs.length (dS (cR cs) (cR ws) t);exact(zCe (M:=M) (w:=.even) h hc q0 q1 ⟨t,⟨t0,rfl,hM⟩,fun _ _=>rfl⟩ hi).symm
theorem zEB{ws cs:List Int}(h:Wt ws cs)(hc:Cl cs){q:Rat}(q0:0<=q)(q1:q<=(cs.sum:Rat)):∃ t,0<=t/\QQ ws cs t=q/\∀ i,i < cs.length->FF .even ws cs q i=dS (cR cs) (cR ws) t i:=by
 obtain⟨M,t,tl,e⟩:=wR (w:=.even) h hc q0 q1;exact⟨t,tl.nn,tl.sum,e⟩
theorem zAb{ws cs:List Int}(h:Wt ws cs)(hc:Cl cs){q y:Rat}(q0:0<=q)(q1:q<=(cs.sum:Rat)){i:Nat}(hi:i < cs.length)(e:FF .even ws cs q i=y)(y1:y < cR cs i){B:Int}(hB:Dn B y):Dn (B * ws.getD i 0) q:=by
 obtain⟨t,t0,tq,ef⟩:=zEB h hc q0 q1;rw[ef i hi] at e;rw[<-tq];refine zPO h hi ?_ hB
 unfold dS mn at e;grind
theorem vC(q:Rat):(q+q) * hf=q:=by rw[gW];grind
theorem zCZ{cs:List Int}{i:Nat}(hi:i < cs.length):(ones cs).getD i 0=1:=by
 unfold ones;rw[Qy,Xi,if_pos hi];rfl
theorem zGp{cs:List Int}(hc:Cl cs){q y:Rat}(q0:0<=q)(q1:q+q<=(cs.sum:Rat)){i:Nat}(hi:i < cs.length)(e:FF .half [] cs q i=y)(y1:y+y < cR cs i){B:Int}(hB:Dn B y):Dn (B * 2) q:=by
 rw[uQ hc q0 q1 hi] at e
 have e':FF .even (ones cs) cs (q+q) i=y+y:=by
  have:=vC (FF .even (ones cs) cs (q+q) i)
  rw[<-e];grind
 have d:=zAb (fA cs) hc (by grind) q1 hi e' y1 (hB.add hB)
 rw[zCZ hi,QY] at d;have:=zFL d
 rw[vC] at this;exact this
theorem zKG{cs:List Int}(hc:Cl cs){i:Nat}(hi:i < cs.length):cs.getD i 0<=cs.sum:=by
 have t:=yV hc.nn hi (Qh _);rw[Vc] at t
 have:0<=(cs.take i).sum:=by
  have:∀ l:List Int,(∀ c∈l,0<=c)->0<=l.sum:=by
   intro l
   induction l with
   | nil=>intro _;decide
   | cons a l ih=>intro hl;rw[QE];have:=hl a Qb;have:=ih fun x hx=>hl x (Qc _ hx);omega
  exact this _ fun x hx=>hc.nn x (V6 hx)
 have:=t.1
 omega
theorem zOb{w:Wy}{ws cs:List Int}(hw:w.due ws cs)(hc:Cl cs)(hS:cs.sum < 2^34){q y:Rat}(q0:0<=q)(q1:q<=(cs.sum:Rat)){i:Nat}(hi:i < cs.length)(e:FF w ws cs q i=y)(y0:0 < y)(y1:y < cR cs i)(least:∀ t,0<=t->t < q->FF w ws cs t i < y){B:Int}(hB:Dn B y):∃ E:Int,0 < E/\E<=2^34/\Dn (B * E) q:=by
 have dc:Dn B (cR cs i - y):=(Dn.int B _).sub hB;have S0:(0:Rat)<=(cs.sum:Rat):=by exact_mod_cast hc.sum.1
 have back:∀ {E:Int},Dn (B * E) ((cs.sum:Rat) - q)->Dn (B * E) q:=fun {E} d=>by
  have:=(Dn.int (B * E) cs.sum).sub d
  rw[show(cs.sum:Rat) - ((cs.sum:Rat) - q)=q by grind] at this;exact this
 have con:=zKW hw hc q0 q1 hi;rw[e] at con
 cases w with
 | row=>
  have z:ws=[]:=hw;subst z;exact⟨1,by decide,by decide,by rw[QY];exact zGJ hc q0 q1 hi e y0 y1 hB⟩
 | back=>
  have z:ws=[]:=hw;subst z;refine⟨1,by decide,by decide,back ?_⟩
  rw[QY];exact zGJ hc (by grind) (by grind) hi con (by grind) (by grind) dc
 | even=>
  have wi:=Wt.at hw hi;exact⟨ws.getD i 0,by omega,by omega,zAb hw hc q0 q1 hi e y1 hB⟩
 | lack=>
  have wi:=Wt.at hw hi;exact⟨ws.getD i 0,by omega,by omega,back (zAb (ws:=ws) hw hc (by grind) (by grind) hi con (by grind) dc)⟩
 | part=>
  have z:ws=[]:=hw;subst z;rw[<-zCe (M:=0) (w:=.part) (ws:=[]) (f:=kD cs q) rfl hc q0 q1 (fun i _=>rfl) hi] at e;have p:=(jB (q:=q) hc hi).1;rw[e] at p
  have c0:0 < cs.getD i 0:=by
   have:(0:Rat) < cR cs i:=by grind
   unfold cR at this;exact_mod_cast this
  have:=zKG hc hi
  obtain⟨k,hk⟩:=hB;refine⟨cs.getD i 0,c0,by omega,k * cs.sum,?_⟩
  unfold cR at p;rw[QJ,QJ,<-hk];grind
 | half=>
  have z:ws=[]:=hw;subst z;have W:=fA cs;refine⟨2,by decide,by decide,?_⟩
  by_cases h:q+q<=(cs.sum:Rat)
  ·by_cases l:y+y < cR cs i
   ·exact zGp hc q0 h hi e l hB
   ·have e0:=e
    rw[uQ hc q0 h hi] at e;obtain⟨t,t0,tq,ef⟩:=zEB W hc (q:=q+q) (by grind) h
    have g1:=ef i hi
    have g2:FF .even (ones cs) cs (q+q) i=y+y:=by
     have:=vC (FF .even (ones cs) cs (q+q) i)
     rw[<-e];grind
    rw[g2] at g1
    have yc:y+y=cR cs i:=by
     unfold dS mn at g1;grind
    have lt:lv (ones cs) cs i<=t:=by
     rcases (Q6:t<=lv (ones cs) cs i∨lv (ones cs) cs i<=t) with u | u
     ·have:=zFd W hi u
      rw[<-g1,yc,<-xP W hi] at this;have o:cR (ones cs) i=1:=by unfold cR;rw[zCZ hi];rfl
      rw[o] at this;grind
     ·exact u
    have m1:=kP W lt;rw[tq] at m1;have l0:=zHx W hc hi
    have Q0:0<=QQ (ones cs) cs (lv (ones cs) cs i):=by
     have:=kP (cs:=cs) W l0
     have z:QQ (ones cs) cs 0=0:=by
      have:∀ j∈List.range cs.length,dS (cR cs) (cR (ones cs)) 0 j=0:=fun j hj=>by
       have:=zGS hc (Qj.mp hj)
       unfold dS mn;grind
      unfold QQ iP;rw[Q5 (g:=fun _=>(0:Rat)) this]
      induction (List.range cs.length) with
      | nil=>rfl
      | cons a r ih=>rw[Qv,QE,ih];grind
     grind
    have eq:QQ (ones cs) cs (lv (ones cs) cs i)=q+q:=by
     rcases Rat.le_iff_lt_or_eq.mp m1 with u | u
     ·exfalso
      have hh:QQ (ones cs) cs (lv (ones cs) cs i) * hf+QQ (ones cs) cs (lv (ones cs) cs i) * hf=QQ (ones cs) cs (lv (ones cs) cs i):=by rw[gW];grind
      have v:=least (QQ (ones cs) cs (lv (ones cs) cs i) * hf) (by rw[gW];grind) (by rw[gW];grind)
      rw[uQ hc (by rw[gW];grind) (by rw[hh];grind) hi,hh,zNy W hc l0 (by grind) Q0 hi,zFO W hi Qd,<-yc,vC] at v;grind
     ·exact u
    have d:=zPO (cs:=cs) W hi (xP W hi) (Dn.int B (cs.getD i 0));rw[eq,zCZ hi,QY] at d;have:=zFL d
    rw[vC] at this;exact this
  ·have h':((cs.sum:Rat) - q)+((cs.sum:Rat) - q)<=(cs.sum:Rat):=by grind
   have con':FF .half [] cs ((cs.sum:Rat) - q) i=cR cs i - y:=con;by_cases l:(cR cs i - y)+(cR cs i - y) < cR cs i
   ·exact back (zGp hc (by grind) h' hi con' l dc)
   ·exfalso
    have hh:(cs.sum:Rat) * hf+(cs.sum:Rat) * hf=(cs.sum:Rat):=by rw[gW];grind
    have v:=least ((cs.sum:Rat) * hf) (by rw[gW];grind) (by rw[gW];grind)
    rw[uQ hc (by rw[gW];grind) (by rw[hh];exact Qd) hi,hh,zDB (w:=.even) W hc hi,gW] at v;grind
theorem zHU{x:Rat}{B E:Int}{m:Nat}(h:Dn (B * E) x)(b0:0 < B)(e0:0 < E)(hb:B<=2^m)(he:E<=2^34):(x.den:Int)<=2^(m+34):=by
 have a:=h.le (Xq b0 e0);have b:B * E<=2^m * 2^34:=Int.mul_le_mul hb he (VJ e0) (VJ (Xb (by decide)))
 rw[Yh];omega
theorem gA(m:Nat):(1:Int)<=2^m:=by
 have:(0:Int) < 2^m:=Xb (by decide)
 omega
theorem rZ{a b:Nat}(h:a<=b):(2:Int)^a<=2^b:=by
 have e:(2:Int)^b=2^a * 2^(b - a):=by rw[<-Yh,Nat.add_sub_cancel' h]
 have p:(0:Int) < 2^a:=Xb (by decide)
 have:=YA (gA (b - a)) (VJ p)
 rw[e];omega
theorem zMT{w:Wy}{ws cs:List Int}{J:List Rat}(hw:w.due ws cs)(hc:Cl cs)(hS:cs.sum < 2^34)(js:JS w ws cs J)(jd:Jd cs J){i:Nat}(hi:i < cs.length){y r:Rat}(u:zCw (wln w ws cs J i) y r){m:Nat}(hy:(y.den:Int)<=2^m):(r.den:Int)<=2^(m+34):=by
 obtain⟨ln,la,pts,val⟩:=zKw hw hc js hi;obtain⟨u1,u2,u3⟩:=u.val ln.1 la;have le:=fun t (t0:0<=t) (l:t < r)=>u.least ln.1 la t0 l
 obtain⟨k,q,hq,hj,h⟩:=u;have hqm:=Qi hq;rcases h with⟨e,rfl⟩ | ⟨k0,hlt,p,hp,hp2,e⟩
 ·obtain⟨B,b0,b1,d⟩:=jd.2 _ (pts q hqm).1
  have:=d.le b0
  have:=rZ (show 34<=m+34 by omega)
  omega
 ·have bp:=cZ ln.1 la (Qi hp)
  have bq:=cZ ln.1 la hqm;have y0:0 < y:=by have:=bp.2.2.1;grind
  have y1:y < cR cs i:=by have:=bq.2.2.2;grind
  rw[val r u2 u3] at u1
  obtain⟨E,e0,e1,d⟩:=zOb hw hc hS u2 u3 hi u1 y0 y1 (fun t t0 l=>by
   have:=le t t0 l
   rw[val t t0 (by grind)] at this
   exact this) (Dn.den y)
  exact zHU d (fB y) e0 hy e1
theorem zOy{w:Wy}{ws cs:List Int}(hw:w.due ws cs)(hc:Cl cs)(hS:cs.sum < 2^34){q:Rat}(q0:0<=q)(q1:q<=(cs.sum:Rat)){i:Nat}(hi:i < cs.length){m:Nat}(hq:(q.den:Int)<=2^m):((FF w ws cs q i).den:Int)<=2^(m+34):=by
 obtain⟨M,al⟩:=wR hw hc q0 q1;obtain⟨E,e0,e1,e2⟩:=zOJ hw hc hS al (Dn.den q);exact zHU (e2 i hi) (fB q) e0 hq (VJ e1)
theorem zKb{P:Nat->Prop}:∀ n,P n->∃ k,P k/\∀ j,j < k->¬ P j:=by
 intro n
 induction n using Nat.strongRecOn with
 | ind n ih=>
  intro h;by_cases c:∃ j,j < n/\P j
  ·obtain⟨j,l,hj⟩:=c
   exact ih j l hj
  ·exact⟨n,h,fun j l hj=>c ⟨j,l,hj⟩⟩
theorem zNP{ps:List Pt}{e:Pt}{y:Rat}(h:Ok ps)(he:ps.getLast?=some e)(y0:0<=y)(y1:y<=e.2):∃ r,zCw ps y r:=by
 obtain⟨k,⟨q,hq,hy⟩,hm⟩:=zKb (P:=fun k=>∃ q:Pt,ps[k]?=some q/\y<=q.2) (ps.length - 1) ⟨e,by rw[<-Vk];exact he,y1⟩
 have lt:∀(j:Nat)(p:Pt),j < k->ps[j]?=some p->p.2 < y:=fun j p l hp=>Rat.not_le.mp fun z=>hm j l ⟨p,hp,z⟩
 by_cases c:q.2=y
 ·exact⟨q.1,k,q,hq,lt,.inl ⟨c,rfl⟩⟩
 ·have k0:0 < k:=by
   rcases XU k with z | z
   ·subst z
    rw[<-Vs,h.1] at hq;cases hq
    have:(0:Rat)=y:=by
     have:y<=(0:Rat):=hy
     grind
    exact absurd this c
   ·exact z
  have kl:=(Qx.mp hq).1;have hp:ps[k - 1]?=some (ps[k - 1]'(by omega)):=Qn _
  exact⟨_,k,q,hq,lt,.inr ⟨k0,by grind,_,hp,lt _ _ (by omega) hp,rfl⟩⟩
structure CL (S c:Int) (g:Rat->Rat) (m k:Nat) (l:List Pt):Prop where
 ln:zNH l
 la:l.getLast?=some ((S:Rat),(c:Rat))
 val:∀ x,0<=x->x<=(S:Rat)->bC l x=g x
 len:l.length<=k
 den:∀ p∈l,(p.1.den:Int)<=2^m
 yd:∀(x:Rat)(e:Nat),0<=x->x<=(S:Rat)->(x.den:Int)<=2^e->((g x).den:Int)<=2^(e+m)
 inv:∀(y r:Rat)(e:Nat),0<=y->y<=(c:Rat)->(y.den:Int)<=2^e->zCw l y r->(r.den:Int)<=2^(e+m)
theorem nX{x:Rat}{S:Int}{m:Nat}(x0:0<=x)(x1:x<=(S:Rat))(hS:S < 2^34)(h:(x.den:Int)<=2^m):Sz (35+m) x:=by
 have:=(Dn.den x).sz (a:=34) (b:=m+1) (fB x) (by rw[Int.pow_succ];have:=gA m;omega) x0 x1 hS
 exact this.mono (by omega)
theorem CL.pt{S c:Int}{g:Rat->Rat}{m k:Nat}{l:List Pt}(h:CL S c g m k l){p:Pt}(hp:p∈l):p.2=g p.1/\0<=p.1/\p.1<=(S:Rat)/\0<=p.2/\p.2<=(c:Rat):=by
 have b:=cZ h.ln.1 h.la hp;obtain⟨i,hi⟩:=VW.mp hp;exact⟨by rw[<-h.val _ b.1 b.2.1];exact(bP h.ln.1.2 hi).symm,b⟩
theorem CL.sz{S c:Int}{g:Rat->Rat}{m k:Nat}{l:List Pt}(h:CL S c g m k l)(hS:S < 2^34)(hc:c < 2^34):∀ p∈l,SzQ (35+m) (35+2 * m) p:=fun p hp=>by
 obtain⟨e,a,b,c0,d⟩:=h.pt hp;refine⟨nX a b hS (h.den p hp),?_⟩
 have:=h.yd _ m a b (h.den p hp)
 rw[<-e] at this;exact(nX c0 d hc this).mono (by omega)
def lnD(l:List Pt):D:=.tup (l.map dp)
theorem zGa{w:Wy}{ws cs:List Int}{J:List Rat}(hw:w.due ws cs)(hc:Cl cs)(hS:cs.sum < 2^34)(js:JS w ws cs J)(lJ:J.length<=30)(zJ:∀ x∈J,Sz 300 x/\∀ i,i < cs.length->Sz 670 (FF w ws cs x i))(jd:Jd cs J){i:Nat}(hi:i < cs.length){c:Int}{g:Rat->Rat}{m k:Nat}{l:List Pt}(hc2:c < 2^34)(h:CL (cs.getD i 0) c g m k l)(hm:m<=272)(hk:k<=1000):
  ∃ R,gN [lnD l,lnD (wln w ws cs J i)]=.ok (.v (lnD R))/\CL cs.sum c (fun x=>g (FF w ws cs x i)) (m+34) (k+30) R:=by
 obtain⟨ln,la,pts,val⟩:=zKw hw hc js hi;have cs1:=zKG hc hi;have zl:=h.sz (by omega) hc2
 have bl:∀ p∈l,p.1<=cR cs i:=fun p hp=>(h.pt hp).2.2.1
 have wl:(wln w ws cs J i).length<=30:=by
  have:=(mZ (zEy hw hc js hi).1.2).length_le
  unfold wln;unfold jpt at this ⊢
  rw[Qg] at this;omega
 have S0:(0:Rat)<=(cs.sum:Rat):=by exact_mod_cast hc.sum.1
 obtain⟨R,e,r1,r2,r3,r4,r5⟩:=zJR (ps:=l) (qs:=wln w ws cs J i) (35+m) (35+2 * m) 300 670 670 400 1000 h.ln.1 ln.1 h.la la rfl (by have:=h.len;omega) (by omega) zl
  (fun p hp=>⟨(zJ _ (pts p hp).1).1,by rw[(pts p hp).2];exact(zJ _ (pts p hp).1).2 i hi⟩) (by omega) (by decide) (by omega) (by omega) (by omega)
  (fun p hp r u=>by
   have d:=zMT hw hc hS js jd hi u (h.den p hp);obtain⟨_,v2,v3⟩:=u.val ln.1 la
   exact(nX v2 v3 hS d).mono (by omega))
  (fun y hy=>by
   have key:0<=y/\y<=cR cs i/\Sz 670 y:=by
    rcases hy with⟨q,hq,rfl⟩ | ⟨p,hp,rfl⟩
    ·have b:=cZ ln.1 la hq
     exact⟨b.2.2.1,b.2.2.2,by rw[(pts q hq).2];exact(zJ _ (pts q hq).1).2 i hi⟩
    ·exact⟨(h.pt hp).2.1,bl p hp,(zl p hp).1.mono (by omega)⟩
   obtain⟨y0,y1,y2⟩:=key;refine⟨y2,?_⟩
   have v:=pF h.ln.1 h.la y0 y1;rw[h.val y y0 y1] at v ⊢
   have d:=h.yd y 670 y0 y1 (by have:=y2.2;omega)
   exact(nX v.1 v.2 hc2 d).mono (by omega))
 refine⟨R,e,r1,r2,fun x x0 x1=>?_,by have:=h.len;omega,fun p hp=>?_,fun x e x0 x1 xd=>?_,fun y r e y0 y1 yd u=>?_⟩
 ·have b:=zJV hw hc x0 x1
  rw[r4 x x0 x1,val x x0 x1,h.val _ (b.1 i hi).1 (b.1 i hi).2]
 ·rcases (r5 p hp).2 with⟨q,hq,e⟩ | ⟨q,hq,u⟩
  ·obtain⟨B,b0,b1,d⟩:=jd.2 _ (pts q hq).1
   rw[e];have:=d.le b0
   have:=rZ (show 34<=m+34 by omega)
   omega
  ·exact zMT hw hc hS js jd hi u (h.den q hq)
 ·have b:=zJV hw hc x0 x1
  have:=h.yd _ (e+34) (b.1 i hi).1 (b.1 i hi).2 (zOy hw hc hS x0 x1 hi xd)
  rw[show e+(m+34)=e+34+m by omega];exact this
 ·obtain⟨z,uz⟩:=zNP h.ln.1 h.la y0 y1
  have dz:=h.inv y z e y0 y1 yd uz;obtain⟨z1,z2,z3⟩:=uz.val h.ln.1 h.la;obtain⟨x,ux⟩:=zNP ln.1 la z2 z3;have dx:=zMT hw hc hS js jd hi ux dz;obtain⟨x1,x2,x3⟩:=ux.val ln.1 la
  have er:r=x:=u.uniq r1.1 r2 (by rw[r4 x x2 x3,x1,z1]) x2 fun t t0 l=>by
   have t1:t<=(cs.sum:Rat):=Qr (Qf l) x3;rw[r4 t t0 t1];exact uz.least h.ln.1 h.la (pF ln.1 la t0 t1).1 (ux.least ln.1 la t0 l)
  rw[er,show e+(m+34)=e+m+34 by omega];exact dx
theorem zQ(ns:List Int)(k:Int)(h:0<=k):fV [.lst (ns.map D.int),.int k]=.ok (.v (.int (ns.getD k.toNat 0))):=by
 unfold fV;symm;by_cases c:k < (ns.length:Int)
 ·rw[decide_eq_true c]
  symm;have hk:k.toNat < ns.length:=by omega
  rw[nR h (Qn hk),Qy,Qn hk];rfl
 ·rw[decide_eq_false c]
  symm;rw[Qy,QC (by omega)];rfl
theorem zFC{c:Int}(c0:0<=c)(c1:c < 2^34):∃ l,gD [.int c]=.ok (.v (lnD l))/\CL c c (fun x=>x) 34 32 l/\l=if c=0 then [(0,0)] else [(0,0),((c:Rat),(c:Rat))]:=by
 have yd:∀(x:Rat)(e:Nat),0<=x->x<=(c:Rat)->(x.den:Int)<=2^e->(x.den:Int)<=2^(e+34):=fun x e _ _ h=>QV h (rZ (by omega))
 have z0:SzQ 40 40 ((0:Rat),(0:Rat)):=by
  have:=(Dn.zero 1).sz (a:=34) (b:=1) (c:=0) (by decide) (by decide) Qd Qd (by decide)
  exact⟨this.mono (by decide),this.mono (by decide)⟩
 by_cases h:c=0
 ·subst h
  have ok:Ok [((0:Rat),(0:Rat))]:=⟨rfl,Xu _ _⟩;have le:lL [((0:Rat),(0:Rat))]=[((0:Rat),(0:Rat))]:=rfl;refine⟨[(0,0)],?_,⟨le ▸ kL ok,rfl,fun x x0 x1=>?_,by show 1<=32;decide,fun p hp=>?_,yd,fun y r e y0 y1 yd u=>?_⟩,by rw[if_pos rfl]⟩
  ·unfold gD
   symm;rw[show D.lst [dp (0,0)]=.lst ([((0:Rat),(0:Rat))].map dp) from rfl,pY (n:=40) (m:=40) (.inl rfl) (by show 1<=100000;decide) (fun p hp=>by rw[Qu.mp hp];exact z0) (by decide) ok];symm;rfl
  ·have:x=0:=by rw[show((0:Int):Rat)=0 from rfl] at x1;grind
   subst this;exact bP ok.2 (i:=0) rfl
  ·rw[Qu.mp hp]
   exact gA 34
  ·obtain⟨_,r0,r1⟩:=u.val ok (e:=(0,0)) rfl
   have:r=0:=by
    have r1':r<=(0:Rat):=r1;grind
   rw[this];exact gA _
 ·have cp:(0:Rat) < (c:Rat):=by exact_mod_cast (show 0 < c by omega)
  have ok:Ok [((0:Rat),(0:Rat)),((c:Rat),(c:Rat))]:=⟨rfl,Qq.mpr ⟨fun p hp=>by rw[Qu.mp hp];exact⟨cp,Qf cp⟩,Xu _ _⟩⟩
  have le:lL [((0:Rat),(0:Rat)),((c:Rat),(c:Rat))]=[((0:Rat),(0:Rat)),((c:Rat),(c:Rat))]:=rfl
  have zc:Sz 40 (c:Rat):=by
   have:=(Dn.int 1 c).sz (a:=34) (b:=1) (by decide) (by decide) (Qf cp) Qd c1
   exact this.mono (by decide)
  have val:∀ x:Rat,0<=x->x<=(c:Rat)->bC [((0:Rat),(0:Rat)),((c:Rat),(c:Rat))] x=x:=fun x x0 x1=>by
   rw[bX ok.2 (i:=0) rfl rfl x0 x1];unfold itp;show(0:Rat)+(x - 0) / ((c:Rat) - 0) * ((c:Rat) - 0)=x
   have:(x - 0) / ((c:Rat) - 0) * ((c:Rat) - 0)=x - 0:=Q7 (by grind)
   rw[this];grind
  refine⟨[(0,0),((c:Rat),(c:Rat))],?_,⟨le ▸ kL ok,rfl,fun x x0 x1=>?_,by show 2<=32;decide,fun p hp=>?_,yd,fun y r e y0 y1 yd u=>?_⟩,by rw[if_neg h]⟩
  ·unfold gD
   symm;rw[decide_eq_false h];symm;rw[bV];symm;rw[bV];symm
   rw[show D.lst [dp (0,0),dp ((c:Rat),(c:Rat))]=.lst ([((0:Rat),(0:Rat)),((c:Rat),(c:Rat))].map dp) from rfl,pY (n:=40) (m:=40) (.inl rfl) (by show 2<=100000;decide) (fun p hp=>by
    rcases Qe.mp hp with rfl | hp
    ·exact z0
    ·rw[Qu.mp hp];exact⟨zc,zc⟩) (by decide) ok]
   symm;rfl
  ·exact val x x0 x1
  ·rcases Qe.mp hp with rfl | hp
   ·exact gA 34
   ·rw[Qu.mp hp];exact gA 34
  ·obtain⟨r2,r0,r1⟩:=u.val ok (e:=((c:Rat),(c:Rat))) rfl
   rw[val r r0 r1] at r2;rw[r2];exact QV yd (rZ (by omega))
def LLg(S:Int)(A:List Int)(f:Rat->List Rat)(m k:Nat)(ls:List (List Pt)):Prop:=ls.length=A.length/\∀ j,j < A.length->CL S (A.getD j 0) (fun x=>(f x).getD j 0) m k (ls.getD j [])
theorem zHz{α:Type}{a b:List α}{j:Nat}{z:α}(h:j < a.length):(a++b).getD j z=a.getD j z:=by
 rw[Qy,Qy,QM h]
theorem zGt{α:Type}{a b:List α}{j:Nat}{z:α}(h:a.length<=j):(a++b).getD j z=b.getD (j - a.length) z:=by
 rw[Qy,Qy,QU h]
theorem zPc{S:Int}{A B:List Int}{f g:Rat->List Rat}{m k:Nat}{la lb:List (List Pt)}(ha:LLg S A f m k la)(hb:LLg S B g m k lb)(fl:∀ x,(f x).length=A.length):LLg S (A++B) (fun x=>f x++g x) m k (la++lb):=by
 refine⟨by rw[Ql,Ql,ha.1,hb.1],fun j hj=>?_⟩
 by_cases h:j < A.length
 ·have e:(fun x=>(f x++g x).getD j 0)=fun x=>(f x).getD j 0:=funext fun x=>zHz (by rw[fl];exact h)
  rw[e,zHz h,zHz (by rw[ha.1];exact h)];exact ha.2 j h
 ·have e:(fun x=>(f x++g x).getD j 0)=fun x=>(g x).getD (j - A.length) 0:=funext fun x=>by rw[zGt (by rw[fl];omega),fl]
  rw[e,zGt (by omega),zGt (by rw[ha.1];omega),ha.1];rw[Ql] at hj;exact hb.2 _ (by omega)
theorem zJb{α:Type}(l:List α)(a:α):l=(List.range l.length).map fun j=>l.getD j a:=by
 refine VZ fun j=>?_
 rw[Qt];by_cases h:j < l.length
 ·rw[Vb h,Option.map_some,Qy,Qn h]
  rfl
 ·rw[QC (by omega),QC (l:=List.range l.length) (by rw[QA];omega)]
  rfl
theorem zHo{w:Wy}{ws cs:List Int}{J:List Rat}(hw:w.due ws cs)(hc:Cl cs)(hS:cs.sum < 2^34)(js:JS w ws cs J)(lJ:J.length<=30)(zJ:∀ x∈J,Sz 300 x/\∀ i,i < cs.length->Sz 670 (FF w ws cs x i))(jd:Jd cs J){i:Nat}(hi:i < cs.length){A:List Int}{f:Rat->List Rat}{m k:Nat}{ls:List (List Pt)}(hA:∀ c∈A,c < 2^34)(h:LLg (cs.getD i 0) A f m k ls)(hm:m<=272)(hk:k<=1000):
  ∃ bf:Nat->List Pt,(∀ j,j < A.length->gN [lnD (ls.getD j []),lnD (wln w ws cs J i)]=.ok (.v (lnD (bf j))))/\LLg cs.sum A (fun x=>f (FF w ws cs x i)) (m+34) (k+30) ((List.range A.length).map bf):=by
 have each:∀ j,j < A.length->∃ R,gN [lnD (ls.getD j []),lnD (wln w ws cs J i)]=.ok (.v (lnD R))/\CL cs.sum (A.getD j 0) (fun x=>(f (FF w ws cs x i)).getD j 0) (m+34) (k+30) R:=fun j hj=>
  zGa hw hc hS js lJ zJ jd hi (hA _ (Qi (bQ hj))) (h.2 j hj) hm hk
 let bf:Nat->List Pt:=fun j=>if hj:j < A.length then Classical.choose (each j hj) else []
 have hb:∀ j (hj:j < A.length),gN [lnD (ls.getD j []),lnD (wln w ws cs J i)]=.ok (.v (lnD (bf j)))/\CL cs.sum (A.getD j 0) (fun x=>(f (FF w ws cs x i)).getD j 0) (m+34) (k+30) (bf j):=fun j hj=>by
  have e:bf j=Classical.choose (each j hj):=dif_pos hj;rw[e];exact Xt (each j hj)
 refine⟨bf,fun j hj=>(hb j hj).1,by rw[Qg,QA],fun j hj=>?_⟩
 have e:((List.range A.length).map bf).getD j []=bf j:=by rw[Qy,Qt,Vb hj];rfl
 rw[e];exact(hb j hj).2
theorem rA:∀(n N:Nat)(d:D),Gc n d->n<=N->n<=9->∃ Ls:List (List Pt),fE N [d]=.ok (.f (Ls.map lnD))/\LLg (clm n d).sum (clm n d) (SF n d) (34 * n) (2+30 * n) Ls
 | 0,_,_,h,_,_=>h.1.elim
 | n+1,0,_,_,hN,_=>by omega
 | n+1,N+1,d,g,hN,hn=>by
  rcases g.1 with⟨c,rfl⟩ | ⟨w,ws,ks,rfl,hw,k0,k1,w1,hy,hk⟩
  ·have c01:0<=c/\c<=10^9:=g.2.2 c Qb
   obtain⟨l,el,cl,_⟩:=zFC c01.1 (by omega)
   have se:(clm (n+1) (.tup [.str "boat", .int c])).sum=c:=by show([c]:List Int).sum=c;simp
   refine⟨[l],?_,rfl,fun j hj=>?_⟩
   ·show iN (fE N) _=_
    unfold iN;symm;rw[rB];symm;rw[qY g.1 (by omega) (by show 1<=1000;decide),se];symm;rw[el];symm
   ·have hj':j < 1:=hj
    have j0:j=0:=by omega
    subst j0;rw[se];exact⟨cl.ln,cl.la,cl.val,QB cl.len (by omega),fun p hp=>QV (cl.den p hp) (rZ (by omega)),fun x e x0 x1 xd=>QV (cl.yd x e x0 x1 xd) (rZ (by omega)),fun y r e y0 y1 yd u=>QV (cl.inv y r e y0 y1 yd u) (rZ (by omega))⟩
  ·obtain⟨v,rfl⟩:=zMV hy.1
   have cl:=g.cl hk k0;have l12:(ks.flatMap (clm n)).length<=12:=g.2.1;have hs:(kcl n ks).sum=(clm (n+1) (.tup [.str v.s,.tup (ws.map D.int),.tup ks])).sum:=zDQ ks;have gs:=g.sum;have due:v.due ws (kcl n ks):=zLn (by rw[jV];exact hy.2)
   have hS:(kcl n ks).sum < 2^34:=by rw[hs];omega
   obtain⟨J,eJ,js,lJ,zJ,jd⟩:=zDg (wd:=.tup (ws.map D.int)) (.inr rfl) (zKE (kcl n ks)) due cl;have ew:((List.range (kcl n ks).length).map fun i=>D.tup ((wln v ws (kcl n ks) J i).map dp))=(List.range' 0 ks.length).map fun i=>lnD (wln v ws (kcl n ks) J i):=by rw[jV,Yi];rfl
   rw[ew] at eJ
   have loopOk:∀(js':List D)(i:Nat)(acc:List (List Pt))(s t:Sl),(∀ k∈js',k∈ks)->i+js'.length=ks.length->ks.drop i=js'->LLg (kcl n ks).sum ((ks.take i).flatMap (clm n)) (fun x=>SFL (SF n) (FF v ws (kcl n ks) x) (ks.take i) 0) (34 * n+34) (2+30 * n+30) acc->∃ xs s' t',LLg (kcl n ks).sum (ks.flatMap (clm n)) (fun x=>SFL (SF n) (FF v ws (kcl n ks) x) ks 0) (34 * n+34) (2+30 * n+30) xs/\
     gO (zHv (nM (gName 3) (nM (gName 4) zIA))) (sH (fE N)) (jT js' ((List.range' i js'.length).map fun i=>lnD (wln v ws (kcl n ks) J i))) [.val (.tup [.str v.s,.tup (ws.map D.int),.tup ks]),.val (.lst ((List.range' 0 ks.length).map fun i=>lnD (wln v ws (kcl n ks) J i))),.own (acc.map lnD),s,t]=
      .ok (.nx [.val (.tup [.str v.s,.tup (ws.map D.int),.tup ks]),.val (.lst ((List.range' 0 ks.length).map fun i=>lnD (wln v ws (kcl n ks) J i))),.own (xs.map lnD),s',t']):=by
    intro js'
    induction js' with
    | nil=>
     intro i acc s t _ h1 _ h2;rw[Xd,Nat.add_zero] at h1;rw[h1,Vc] at h2;exact⟨acc,s,t,h2,rfl⟩
    | cons k r ih=>
     intro i acc s t hm' hl' hd' ha;have hik:i < ks.length:=by rw[Qm] at hl';omega
     have ik:k∈ks:=hm' k Qb;have gk:=g.kid hk ik
     have ki:ks[i]?=some k:=by
      have:=Yf (xs:=ks) (i:=i) (j:=0)
      rw[hd'] at this;simpa using this.symm
     obtain⟨i1,i2⟩:=zLe (n:=n) ki
     have ci:(kcl n ks).getD i 0=(clm n k).sum:=by
      unfold kcl;rw[Qy,Qt,ki];rfl
     obtain⟨lk,ek,sk⟩:=rA n N k gk (by omega) (by omega)
     rw[<-ci] at sk;obtain⟨bf,b1,b2⟩:=zHo due cl hS js lJ zJ jd i1 (fun c hc=>by have:=(gk.2.2 c hc).2;omega) sk (by omega) (by omega)
     have tk:ks.take (i+1)=ks.take i++[k]:=by rw[List.take_add_one,ki];rfl
     have lt:(ks.take i).length=i:=by rw[VR];omega
     have nx:LLg (kcl n ks).sum ((ks.take (i+1)).flatMap (clm n)) (fun x=>SFL (SF n) (FF v ws (kcl n ks) x) (ks.take (i+1)) 0) (34 * n+34) (2+30 * n+30) (acc++(List.range (clm n k).length).map bf):=by
      have q:=zPc ha b2 fun x=>zDi fun k' hk' q=>zGz (hk k' (V6 hk')) q
      rw[tk,Vv,Vm,Yj,QS]
      have e:(fun x=>SFL (SF n) (FF v ws (kcl n ks) x) (ks.take i++[k]) 0)=fun x=>SFL (SF n) (FF v ws (kcl n ks) x) (ks.take i) 0++SF n k (FF v ws (kcl n ks) x i):=funext fun x=>by
       rw[zHa,lt,VS];show _++(SF n k (FF v ws (kcl n ks) x i)++[])=_
       rw[QS]
      rw[e];exact q
     obtain⟨xs,s',t',sy,ey⟩:=ih (i+1) (acc++(List.range (clm n k).length).map bf) (.val k) (.val (lnD (wln v ws (kcl n ks) J i))) (fun x hx=>hm' x (Qc _ hx)) (by rw[Qm] at hl';omega) (by rw[<-List.drop_drop,hd'];rfl) nx
     refine⟨xs,s',t',sy,?_⟩
     have la:=nx.1;have lf:((ks.take (i+1)).flatMap (clm n)).length<=(ks.flatMap (clm n)).length:=zIC;rw[Ql,Qg,QA] at la;have lk':lk.length=(clm n k).length:=sk.1;rw[zJb lk [],lk',Qw] at ek;rw[Qm,List.range'_succ,Qv,show jT (k::r) (lnD (wln v ws (kcl n ks) J i)::(List.range' (i+1) r.length).map fun i=>lnD (wln v ws (kcl n ks) J i))=.tup [k,lnD (wln v ws (kcl n ks) J i)]::jT r ((List.range' (i+1) r.length).map fun i=>lnD (wln v ws (kcl n ks) J i)) from rfl]
     rw[dL (ρ1:=[.val (.tup [.str v.s,.tup (ws.map D.int),.tup ks]),.val (.lst ((List.range' 0 ks.length).map fun i=>lnD (wln v ws (kcl n ks) J i))),.own (acc.map lnD),.val k,.val (lnD (wln v ws (kcl n ks) J i))]) (ρ2:=[.val (.tup [.str v.s,.tup (ws.map D.int),.tup ks]),.val (.lst ((List.range' 0 ks.length).map fun i=>lnD (wln v ws (kcl n ks) J i))),.own ((acc++(List.range (clm n k).length).map bf).map lnD),.val k,.val (lnD (wln v ws (kcl n ks) J i))]) (by symm) (by
      symm;rw[ek];symm
      rw[eT (u:=lnD ∘ fun j=>lk.getD j []) (g:=fun j=>lnD (bf j)) (by rw[QA];omega) (fun j hj=>by
       symm;rw[show(lnD ∘ fun j=>lk.getD j []) j=lnD (lk.getD j []) from rfl,b1 j (Qj.mp hj)]
       symm)]
      symm;rw[if_pos (by simp only[Qg,QA];omega),QG,Qw]
      rfl),ey]
   obtain⟨xs,s',t',sx,ex⟩:=loopOk ks 0 [] .un .un (fun k h=>h) (by omega) rfl ⟨rfl,fun j hj=>absurd hj (Nat.not_lt_zero j)⟩
   refine⟨xs,?_,?_⟩
   ·show iN (fE N) _=_
    unfold iN;symm;rw[nK hw];symm;rw[zEr];symm;rw[rX];symm;rw[sE hw hk (by omega) (by omega)];symm;rw[eJ];symm;rw[mY hw];symm;rw[oG rfl rfl];symm;rw[Vo] at ex;rw[ex];rfl
   ·have e:(fun x=>SFL (SF n) (FF v ws (kcl n ks) x) ks 0)=SF (n+1) (.tup [.str v.s,.tup (ws.map D.int),.tup ks]):=funext fun x=>(zDI n v ws ks x).symm
    rw[e,hs] at sx;exact sx
theorem uL{ds:List D}{a:Int}(h:a < 0):fW ds (some a) none=ds.drop (ds.length - (-a).toNat):=by
 unfold fW cut;simp only[if_neg (show ¬ 0<=a by omega)];rw[show((ds.length:Int)+a).toNat=ds.length - (-a).toNat by omega];exact VV (by rw[QZ];omega)
theorem zIT{ds:List D}{a:Int}(h:a < 0):fW ds none (some a)=ds.take (ds.length - (-a).toNat):=by
 unfold fW cut;simp only[if_neg (show ¬ 0<=a by omega),VT,Nat.sub_zero];rw[show((ds.length:Int)+a).toNat=ds.length - (-a).toNat by omega]
theorem uT:∀(n:Nat)(d:D),IsC n d->(clm n d).length<=1000->gB n [d]=.ok (.f ((clm n d).map D.int))
 | 0,d,h,_=>h.elim
 | n+1,d,h,hl=>by
  show kK (gB n) [d]=_
  unfold kK;rcases h with⟨c,rfl⟩ | ⟨w,ws,ks,rfl,hw,k0,k1,w1,hy,hk⟩
  ·symm
   rfl
  ·symm
   rw[hw];symm;refine mM (Q:=fun r=>r.bind fin=.ok (.f ((ks.flatMap (clm n)).map D.int))) (fun i ρ=>∃ a,ρ=[.val (.tup [.str w,.tup (ws.map D.int),.tup ks]),.own (((ks.take i).flatMap (clm n)).map D.int),a]) ⟨_,rfl⟩ ?_ ?_
   ·rintro i e ρ he ⟨a,rfl⟩
    have hm:=Qi he;have hl':(ks.flatMap (clm n)).length<=1000:=hl;have h1:=uT n e (hk e hm) (QB (zIz hm) hl');have h2:((ks.take i).flatMap (clm n)).length<=(ks.flatMap (clm n)).length:=zIC;have h3:=zIz (n:=n) hm;symm;rw[h1];symm;rw[if_pos (by omega)];refine⟨_,rfl,.val e,?_⟩
    rw[mV he,Vv,QG,Vm,Yj,QS]
   ·rintro ρ' ⟨a,rfl⟩
    rw[Vc];symm
theorem zIF:∀ {n m:Nat} {d:D},IsC n d->dpt n d<=(m:Int)->IsC m d
 | 0,_,_,h,_=>h.elim
 | n+1,0,d,h,l=>by have:=(zHG h).1;omega
 | n+1,m+1,d,h,l=>by
  rcases h with⟨c,rfl⟩ | ⟨w,ws,ks,rfl,hw,k0,k1,w1,hy,hk⟩
  ·exact .inl ⟨c,rfl⟩
  ·have l':1+mx0 (ks.map (dpt n))<=((m+1:Nat):Int):=l
   exact .inr ⟨w,ws,ks,rfl,hw,k0,k1,w1,hy,fun k hm=>zIF (hk k hm) (by
    have:=zGe (l:=ks.map (dpt n)) (Qp.mpr ⟨k,hm,rfl⟩)
    omega)⟩
theorem zBt(c k:Int)(hk:0<=k)(hk2:k<=1000):∃ x:Int,iU [.int c,.int k]=.ok (.v (.int x))/\0<=x/\x < 2147483647:=by
 refine⟨_,?_,QN (c * 48271+7919 * k+23) (b:=2147483647) (by decide),QO _ (by decide)⟩
 unfold iU;symm
abbrev zRB:D:=.lst [.str "row", .str "back", .str "even", .str "lack", .str "part", .str "half"]
theorem zMC(k:Int)(h0:0<=k)(h1:k < 6):∃ w∈wys,oIx zRB (.int k)=.ok (.str w):=by
 have hk:k=0∨k=1∨k=2∨k=3∨k=4∨k=5:=by omega
 rcases hk with rfl | rfl | rfl | rfl | rfl | rfl
 all_goals exact⟨_,by simp[wys],rfl⟩
theorem zJK{x:Int}{m:Nat}(h:x.natAbs < 2^m){a:Int}(ha:a.natAbs < 2^30):(x+a).natAbs < 2^(m+31):=by
 have e:(2:Nat)^(m+31)=2^m * 2^31:=Nat.pow_add ..;have p:1<=(2:Nat)^m:=Nat.one_le_two_pow;have:2^m * 2^30+2^m * 2^30=(2:Nat)^m * 2^31:=by rw[<-Nat.mul_add]
 have q:2^m * 1<=(2:Nat)^m * 2^30:=Nat.mul_le_mul_left _ (by decide)
 have r:1 * 2^30<=(2:Nat)^m * 2^30:=Nat.mul_le_mul_right _ p;rw[e];omega
theorem xO{ks:List D}{mix plan:Int}{m:Nat}(hm:mix.natAbs < 2^m)(m20:m<=1048576)(k1:ks.length<=100):∃(w:Str)(ws:List Int),eI [.lst ks,.int mix,.int plan]=.ok (.v (.tup [.str w,.tup (ws.map D.int),.tup ks]))/\w∈wys/\wOK w ws ks.length/\ws.length<=100:=by
 have q6:0<=mix / 7 % 6/\mix / 7 % 6 < 6:=⟨QN _ (by decide),QO _ (by decide)⟩
 obtain⟨w,hw,ew⟩:=zMC _ q6.1 q6.2
 have key:∀ r,eI [.lst ks,.int mix,.int plan]=r->∃(w:Str)(ws:List Int),r=.ok (.v (.tup [.str w,.tup (ws.map D.int),.tup ks]))/\w∈wys/\wOK w ws ks.length/\ws.length<=100:=by
  intro r hr;rw[<-hr];unfold eI;symm;rw[ew];symm;rw[zQi];symm;by_cases c:w = "even" ∨ w = "lack"
  ·rw[decide_eq_true c]
   symm
   have g3:0<=plan / 3 % 3 / 2/\plan / 3 % 3 / 2 < 2:=by
    have a:=QN (plan / 3) (b:=3) (by decide)
    have b:=QO (plan / 3) (b:=3) (by decide)
    omega
   obtain⟨gr,hg,eg⟩:∃ g:Int,(1<=g/\g<=10^6)/\oIx (.lst [.int 5,.int (10^6)]) (.int (plan / 3 % 3 / 2))=.ok (.int g):=by
    generalize plan / 3 % 3 / 2=k at g3;have hk:k=0∨k=1:=by omega
    rcases hk with rfl | rfl
    ·exact⟨5,by omega,rfl⟩
    ·exact⟨10^6,by omega,rfl⟩
   rw[oPow_i (by decide)];symm;rw[eg];symm;rw[xW (by omega) (by omega)];symm;rw[show rng 0 ((ks.length:Int)).toNat 1=(List.range ks.length).map fun j:Nat=>D.int (j:Int) by unfold rng;rw[QW];exact Q5 fun j _=>by rw[show(0:Int)+(j:Int) * 1=(j:Int) by omega]]
   rw[eT (u:=fun j:Nat=>D.int (j:Int)) (g:=fun j:Nat=>D.int (1+(mix+40692 * (j:Int)+1)^2 % 998244353 / 7 % gr)) (by rw[QA];omega) (fun j hj=>by
    have hj':=Qj.mp hj
    have ab:(mix+40692 * (j:Int)+1).natAbs < 2^(m+31):=by
     rw[X8];exact zJK hm (by omega)
    symm;rw[oPow_i (zKn ab (by decide) (by omega))];symm;rw[oMod_i (by omega),yE _ (by omega)]
    symm)]
   symm;refine⟨w,(List.range ks.length).map fun j:Nat=>1+(mix+40692 * (j:Int)+1)^2 % 998244353 / 7 % gr,?_,hw,.inl ⟨c,by rw[Qg,QA],fun x hx=>?_⟩,by rw[Qg,QA];exact k1⟩
   ·rw[Qw]
    rfl
   ·obtain⟨j,_,rfl⟩:=Qp.mp hx
    have a:=QN ((mix+40692 * (j:Int)+1)^2 % 998244353 / 7) (b:=gr) (by omega)
    have b:=QO ((mix+40692 * (j:Int)+1)^2 % 998244353 / 7) (b:=gr) (by omega)
    omega
  ·rw[decide_eq_false c]
   symm;exact⟨w,[],rfl,hw,.inr ⟨c,rfl⟩,by decide⟩
 exact key _ rfl
structure Pq (L:List D) (many:Int):Prop where
 each:∀ p∈L,IsC 7 p
 few:((L.flatMap (clm 7)).length:Int)<=many
 most:many<=12
 rng:∀ c∈L.flatMap (clm 7),0<=c/\c<=10^9
 start:L=[]->many=0
theorem Pq.ok{L:List D}{b:Int}(h:Pq L b):∀ d∈L,dOK 15 d:=fun d hd=>zHT _ _ (h.each d hd)
theorem Pq.len{L:List D}{b:Int}(h:Pq L b):L.length<=12:=by
 have:=zEh h.each
 have:=h.few
 have:=h.most
 omega
theorem Pq.knot{L:List D}{b:Int}(h:Pq L b){k:Nat}{w:Str}{ws:List Int}(hd:0 < (L.drop k).length)(hw:w∈wys)(hs:wOK w ws (L.drop k).length)(hl:ws.length<=100){n:Nat}(hn:n<=7)(hk:∀ d∈L.drop k,IsC n d):IsC (n+1) (.tup [.str w,.tup (ws.map D.int),.tup (L.drop k)])/\clm (n+1) (.tup [.str w,.tup (ws.map D.int),.tup (L.drop k)])=(L.drop k).flatMap (clm 7):=by
 have:=h.len
 refine⟨.inr ⟨w,ws,_,rfl,(zMw hw).2,hd,by rw[QZ];omega,hl,⟨hw,hs⟩,hk⟩,?_⟩
 show(L.drop k).flatMap (clm n)=_
 rw[Xv,Xv];congr 1
 exact Q5 fun d hd=>(nH (hk d hd) hn).symm
def PqS(cs:List Int)(plan most:Int)(i:Nat)(ρ:Rho):Prop:=∃(L:List D)(many:Int)(a5 a6 a7:Sl),ρ=[.val (.lst (cs.map D.int)),.val (.int plan),.val (.int most),.own L,.val (.int many),a5,a6,a7]/\Pq L many
theorem zOn{cs:List Int}{plan most:Int}{L:List D}{many:Int}{a6 a7:Sl}(pq:Pq L many)(hm:most<=12){i:Nat}(hi:i < cs.length)(hc:cs.length<=100):∃ ρ2,nU [.val (.lst (cs.map D.int)),.val (.int plan),.val (.int most),.own L,.val (.int many),.val (.int (i:Int)),a6,a7]=.ok (.nx ρ2)/\PqS cs plan most (i+1) ρ2:=by
 obtain⟨mix,em,x0,x1⟩:=zBt (cs.getD i 0) (i:Int) (by omega) (by omega)
 have len:=pq.len;symm;rw[zKY hi];symm;rw[em];symm;have q0:=QN (mix / 5) (b:=4) (by decide)
 have q1:=QO (mix / 5) (b:=4) (by decide)
 generalize mix / 5 % 4=q at q0 q1
 have bt:many < 12->∃ ρ2,(bD (cX 4 (eOp sV (aH 4) (eC (.int 1)))) jY) [.val (.lst (cs.map D.int)),.val (.int plan),.val (.int most),.own L,.val (.int many),.val (.int (i:Int)),.val (.int mix),.val (.int (1+q))]=.ok (.nx ρ2)/\PqS cs plan most (i+1) ρ2:=fun c=>by
  symm;have p1:(0:Int)<=mix / 13 % 13/\mix / 13 % 13 < 13:=⟨QN _ (by decide),QO _ (by decide)⟩
  have p2:(0:Int)<=mix / 89 % 4/\mix / 89 % 4 < 4:=⟨QN _ (by decide),QO _ (by decide)⟩
  have p3:(0:Int)<=mix / 17 % 10^9/\mix / 17 % 10^9 < 10^9:=⟨QN _ (by decide),QO _ (by decide)⟩
  have p4:(0:Int)<=plan % 3/\plan % 3 < 3:=⟨QN _ (by decide),QO _ (by decide)⟩
  obtain⟨u,hu,e⟩:∃ u:Int,(0<=u/\u<=10^9)/\oIx (.lst [.int (mix / 13 % 13),.int (mix / 89 % 4),.int (mix / 17 % 10^9)]) (.int (plan % 3))=.ok (.int u):=by
   generalize plan % 3=k at p4;have hk:k=0∨k=1∨k=2:=by omega
   rcases hk with rfl | rfl | rfl
   ·exact⟨_,by omega,rfl⟩
   ·exact⟨_,by omega,rfl⟩
   ·exact⟨_,by omega,rfl⟩
  rw[e];symm;rw[if_pos (by omega)];refine⟨_,rfl,L++[.tup [.str "boat", .int u]],many+1,_,_,_,rfl,⟨fun p hp=>?_,?_,by omega,fun c hc=>?_,fun z=>by simp at z⟩⟩
  ·rcases QF.mp hp with hp | hp
   ·exact pq.each p hp
   ·rw[Qu.mp hp];exact .inl ⟨u,rfl⟩
  ·have:=pq.few
   rw[Vv,Ql];show((_+1:Nat):Int)<=_
   omega
  ·rw[Vv] at hc
   rcases QF.mp hc with hc | hc
   ·exact pq.rng c hc
   ·have hc':c∈[u]:=hc
    rw[Qu.mp hc'];exact hu
 have kt:0 < L.length->∃ ρ2,(sIf (tFrzB (dY (eOp oLt (eB zBz (aE (eF (jE (qF (eF (fSl (aH 3) (oS (eUn zAQ (aH 7))) oN))) jC (aP (dP 10) (aE (aH 8) aNil)))) aNil)) (eC (.int 7))))) (zBQ 3 (zNJ (zMu (eF (fSl (aH 3) oN (oS (eUn zAQ (aH 7))))) (eF (lQ (aE (aP eI (aE (eF (fSl (aH 3) (oS (eUn zAQ (aH 7))) oN)) (aE (eOp rY (aH 6) (eC (.int 31))) (aE (aH 1) aNil)))) aNil)))))) sNext) [.val (.lst (cs.map D.int)),.val (.int plan),.val (.int most),.own L,.val (.int many),.val (.int (i:Int)),.val (.int mix),.val (.int (1+q))]=.ok (.nx ρ2)/\PqS cs plan most (i+1) ρ2:=fun l0=>by
  have sub:∀ k:Nat,∀ d∈L.drop k,d∈L:=fun k d hd=>Yz hd
  have lp:0 < (L.drop (L.length - (- -(1+q)).toNat)).length:=by rw[QZ];omega
  symm;rw[uL (by omega)];generalize hk:L.length - (- -(1+q)).toNat=k at lp
  have e:=eT (u:=fun d:D=>d) (g:=fun d=>.int (dpt 7 d)) (l:=L.drop k) (f:=aP (dP 10) (aE (aH 8) aNil)) (ρ:=[.val (.lst (cs.map D.int)),.val (.int plan),.val (.int most),.val (.lst L),.val (.int many),.val (.int (i:Int)),.val (.int mix),.val (.int (1+q))]) (by rw[QZ];omega) (fun d hd=>by
   have c7:=pq.each d (sub k d hd);symm;rw[xG 10 d (oV c7 (by decide)),zDX c7 (by decide)]
   symm)
  rw[List.map_id'] at e;rw[e];symm;rw[zBq lp];symm;by_cases c:mx0 ((L.drop k).map (dpt 7)) < 7
  ·rw[decide_eq_true c]
   obtain⟨w,ws,ew,hw,hs,hl⟩:=xO (ks:=L.drop k) (mix:=mix / 31) (plan:=plan) (m:=31) (by omega) (by decide) (by rw[QZ];omega)
   have hn:∀ d∈L.drop k,IsC 6 d:=fun d hd=>zIF (pq.each d (sub k d hd)) (by
    have:=zGe (l:=(L.drop k).map (dpt 7)) (Qp.mpr ⟨d,hd,rfl⟩)
    omega)
   obtain⟨k1,k2⟩:=pq.knot lp hw hs hl (by decide) hn
   have nl:noLs (L.take k++[.tup [.str w,.tup (ws.map D.int),.tup (L.drop k)]])=true:=zGQ fun d hd=>by
    rcases QF.mp hd with h | h
    ·exact zCP _ _ (pq.ok d (V6 h))
    ·rw[Qu.mp h];exact zCP _ _ (zHT _ _ k1)
   symm;rw[zIT (by omega),uL (by omega),hk];rw[ew];symm;rw[if_pos (by rw[VR];omega)];symm;rw[if_pos nl]
   have fm:(L.take k++[D.tup [.str w,.tup (ws.map D.int),.tup (L.drop k)]]).flatMap (clm 7)=L.flatMap (clm 7):=by
    rw[Vv,Vm,Yj,QS]
    conv=>rhs;rw[<-Yg k L,Vv]
    rw[show clm 7 (D.tup [.str w,.tup (ws.map D.int),.tup (L.drop k)])=(L.drop k).flatMap (clm 7) from k2]
   refine⟨_,rfl,_,many,_,_,_,rfl,⟨fun p hp=>?_,by rw[fm];exact pq.few,pq.most,by rw[fm];exact pq.rng,fun z=>by simp at z⟩⟩
   rcases QF.mp hp with h | h
   ·exact pq.each p (V6 h)
   ·rw[Qu.mp h];exact k1
  ·rw[decide_eq_false c]
   symm;exact⟨_,rfl,L,many,_,_,_,rfl,pq⟩
 generalize hB:(bD (cX 4 (eOp sV (aH 4) (eC (.int 1)))) jY:Sv)=BB at bt;generalize hK:(sIf (tFrzB (dY (eOp oLt (eB zBz (aE (eF (jE (qF (eF (fSl (aH 3) (oS (eUn zAQ (aH 7))) oN))) jC (aP (dP 10) (aE (aH 8) aNil)))) aNil)) (eC (.int 7))))) (zBQ 3 (zNJ (zMu (eF (fSl (aH 3) oN (oS (eUn zAQ (aH 7))))) (eF (lQ (aE (aP eI (aE (eF (fSl (aH 3) (oS (eUn zAQ (aH 7))) oN)) (aE (eOp rY (aH 6) (eC (.int 31))) (aE (aH 1) aNil)))) aNil)))))) sNext:Sv)=KK at kt
 have rest:∀ b:Bool,(b=true->many < 12)->∃ ρ2,(((Res.ok b:Res Bool).bind (zPY (dY (eOp oEq (aH 3) (eF (lQ aNil)))) [.val (.lst (cs.map D.int)),.val (.int plan),.val (.int most),.val (.lst L),.val (.int many),.val (.int (i:Int)),.val (.int mix),.val (.int (1+q))])).bind (ifF BB KK [.val (.lst (cs.map D.int)),.val (.int plan),.val (.int most),.own L,.val (.int many),.val (.int (i:Int)),.val (.int mix),.val (.int (1+q))]))=.ok (.nx ρ2)/\PqS cs plan most (i+1) ρ2:=by
  intro b hb
  cases b with
  | true=>exact bt (hb rfl)
  | false=>
   symm;rw[(zKL pq.ok).1];symm;by_cases c:L.length=0
   ·rw[decide_eq_true c]
    exact bt (by have:=pq.start (XW c);omega)
   ·rw[decide_eq_false c]
    exact kt (by omega)
 by_cases c1:mix / 11 % 3 < 2
 ·rw[decide_eq_true c1]
  symm;exact rest _ fun z=>by have:=of_decide_eq_true z;omega
 ·rw[decide_eq_false c1]
  exact rest false fun z=>by cases z
theorem zAT{cs:List Int}{plan most:Int}{m:Nat}(hc:cs.length<=100)(hm:plan.natAbs < 2^m)(m20:m<=1048576)(h1:0<=most)(h2:most<=12):∃ d:D,gQ [.lst (cs.map D.int),.int plan,.int most]=.ok (.v d)/\Gc 8 d:=by
 unfold gQ;symm;rw[xW (by omega) (by omega)];symm;refine mM (Q:=fun r=>∃ d:D,r.bind fin=.ok (.v d)/\Gc 8 d) (PqS cs plan most) ⟨[],0,_,_,_,rfl,⟨fun p h=>(by cases h),by decide,by decide,fun p h=>(by cases h),fun _=>rfl⟩⟩ ?_ ?_
 ·rintro i e ρ he ⟨L,many,a5,a6,a7,rfl,pq⟩
  obtain⟨hi,rfl⟩:=zHq he;rw[show(0:Int)+(i:Int) * 1=(i:Int) by omega];exact zOn pq h2 (by omega) hc
 ·rintro ρ ⟨L,many,a5,a6,a7,rfl,pq⟩
  have len:=pq.len;symm;rw[(zKL pq.ok).1];symm;by_cases c0:L.length=0
  ·rw[decide_eq_true c0]
   symm;have p7:(0:Int)<=plan % 7/\plan % 7 < 7:=⟨QN _ (by decide),QO _ (by decide)⟩
   exact⟨_,rfl,.inl ⟨_,rfl⟩,by show 1<=12;decide,fun c hc=>by have hc':c∈[plan % 7]:=hc;rw[Qu.mp hc'];omega⟩
  ·rw[decide_eq_false c0]
   symm;by_cases c1:L.length=1
   ·rw[decide_eq_true (by omega)]
    obtain⟨x,rfl⟩:∃ x,L=[x]:=by
     match L,c1 with
     | [x],_=>exact⟨x,rfl⟩
    have cx:=pq.each x Qb;have e7:clm 8 x=clm 7 x:=nH cx (by decide)
    have fm:([x]:List D).flatMap (clm 7)=clm 7 x:=by simp
    symm;refine⟨x,rfl,oV cx (by decide),?_,?_⟩
    ·rw[e7,<-fm];have:=pq.few;have:=pq.most;omega
    ·rw[e7,<-fm];exact pq.rng
   ·rw[decide_eq_false (by omega)]
    symm;obtain⟨w,ws,ew,hw,hs,hl⟩:=xO (ks:=L) (mix:=plan / 9) (plan:=plan) (m:=m) (Vp (by omega) hm) m20 (by omega)
    rw[ew];symm;obtain⟨k1,k2⟩:=pq.knot (k:=0) (w:=w) (ws:=ws) (by rw[VT];omega) hw (by rw[VT];exact hs) hl (by decide) (fun d hd=>pq.each d (by rw[VT] at hd;exact hd))
    rw[VT] at k1 k2;refine⟨_,rfl,k1,?_,?_⟩
    ·rw[k2];have:=pq.few;have:=pq.most;omega
    ·rw[k2];exact pq.rng
abbrev Big(ns:List Int):Prop:=∃ m,m<=1048576/\∀ n∈ns,n.natAbs < 2^m
theorem Big.at{ns:List Int}(h:Big ns)(k:Nat):∃ m,m<=1048576/\(ns.getD k 0).natAbs < 2^m:=by
 obtain⟨m,m1,m2⟩:=h;by_cases c:k < ns.length
 ·exact⟨m,m1,m2 _ (Qi (bQ c))⟩
 ·refine⟨0,by decide,?_⟩
  rw[Qy,QC (by omega)];decide
theorem zML{b:Bool}:zPb [.bl b]=.ok (.int (if b then 1 else 0)):=by cases b<;>rfl
theorem zAD{b:Bool}{x y:Int}:oIx (.lst [.int x,.int y]) (.int (if b then 1 else 0))=.ok (.int (if b then y else x)):=by cases b<;>rfl
theorem xQ(ns:List Int)(a b:Int)(ha:0<=a)(hb:0<=b):∃ cs:List Int,fW (ns.map D.int) (some a) (some b)=cs.map D.int/\cs.length<=ns.length:=by
 refine⟨(ns.drop a.toNat).take (b.toNat - a.toNat),by rw[zId ha hb,List.map_take,List.map_drop],?_⟩
 rw[VR,QZ];omega
theorem zPm{ls:List (List Pt)}{j:Nat}(h:j < ls.length):oIx (.lst (ls.map lnD)) (.int (j:Int))=.ok (lnD (ls.getD j [])):=nR (Vf j) (by rw[QW,Qy,Qn h];rfl)
theorem zGE{ps:List Pt}{e p0:Pt}{y:Rat}{i0:Nat}(h:Ok ps)(he:ps.getLast?=some e)(hp:ps[i0]?=some p0)(hy:p0.2=y)(far:∀ (j:Nat) (p:Pt),i0 < j->ps[j]?=some p->y < p.2){x:Rat}(l:p0.1 < x)(x1:x<=e.1):y < bC ps x:=by
 have x0:0<=x:=by have:=cZ h he (Qi hp);grind
 rcases rR h.2 he (fun p hp=>by rw[h.1] at hp;cases hp;exact x0) x1 with⟨i,p,hi,rfl⟩ | ⟨i,p,q,hi,hq,l1,l2⟩
 ·rw[bP h.2 hi]
  have:i0 < i:=by
   rcases Xl i0 i with z | z | z
   ·exact z
   ·subst z;rw[hp] at hi;cases hi;grind
   ·have:=(iG h.2 z hi hp).1;grind
  exact far i p this hi
 ·rw[bX h.2 hi hq (Qf l1) (Qf l2)]
  have a:=iG h.2 (QT i) hi hq
  have lt:i0 < i+1:=by
   rcases XS i0 (i+1) with z | z
   ·exact z
   ·rcases Vr z with z | z
    ·have:=(iG h.2 z hq hp).1;grind
    ·subst z;rw[hp] at hq;cases hq;grind
  have yq:=far _ q lt hq;rcases Vr (Nat.le_of_lt_succ lt) with z | z
  ·have yp:=far i p z hi
   have:=(oM a (Qf l1) (Qf l2)).1
   grind
  ·subst z
   rw[hp] at hi;cases hi;have:=zGn a.1 (show p0.2 < q.2 by grind) l
   rw[zJx] at this;grind
theorem zKc{ps:List Pt}{e:Pt}{y a b:Rat}(h:zNH ps)(he:ps.getLast?=some e)(E:zCx ps y a b):zCw ps y a/\a<=b/\b<=e.1/\(b=a∨∃ p∈ps,b=p.1)/\bC ps b=y/\(∀ x,x<=e.1->b < x->y < bC ps x):=by
 obtain⟨k,q,hq,hj,far,c⟩:=E
 have up:zCw ps y a:=⟨k,q,hq,hj,by
  rcases c with⟨c1,c2,_⟩ | ⟨k0,c1,c2,_⟩
  ·exact .inl ⟨c1,c2⟩
  ·exact .inr ⟨k0,c1,c2⟩⟩
 obtain⟨v1,v2,v3⟩:=up.val h.1 he;rcases c with⟨c1,c2,⟨u,hu,c3,c4⟩ | ⟨c3,c4⟩⟩ | ⟨k0,c1,⟨p,hp,c2,c3⟩,c4⟩
 ·have um:=Qi hu
  have:=iG h.1.2 (QT k) hq hu
  refine⟨up,by rw[c2,c4];exact Qf this.1,by rw[c4];exact(cZ h.1 he um).2.1,.inr ⟨u,um,c4⟩,by rw[c4,bP h.1.2 hu,c3],fun x x1 l=>?_⟩
  exact zGE h.1 he hu c3 (fun j p l hp=>far j p (by omega) hp) (by rw[<-c4];exact l) x1
 ·refine⟨up,by rw[c2,c4];exact Qd,by rw[c4,<-c2];exact v3,.inl (by rw[c2,c4]),by rw[c4,<-c2];exact v1,fun x x1 l=>?_⟩
  refine zGE h.1 he hq c1 (fun j p l hp=>?_) (by rw[<-c4];exact l) x1
  rcases Vr (Nat.succ_le_of_lt l) with z | z
  ·exact far j p (by omega) hp
  ·subst z;exact c3 p hp
 ·subst c4
  refine⟨up,Qd,v3,.inl rfl,v1,fun x x1 l=>?_⟩
  have kk:k - 1+1=k:=by omega
  have as:=iG h.1.2 (show k - 1 < k by omega) hp hq
  have bq:=cZ h.1 he (Qi hq);rcases (Q6:q.1<=x∨x<=q.1) with z | z
  ·have m:=dI h.1 he bq.1 z x1
   rw[bP h.1.2 hq] at m;grind
  ·have pb:p.1<=b:=by
    rcases (Q6:p.1<=b∨b<=p.1) with w | w
    ·exact w
    ·have bp:=cZ h.1 he (Qi hp)
     have m:=dI h.1 he v2 w bp.2.1;rw[v1,bP h.1.2 hp] at m;grind
   have e1:=bX h.1.2 hp (by rw[kk];exact hq) (show p.1<=x by grind) z
   have e2:=bX h.1.2 hp (by rw[kk];exact hq) pb (by grind)
   have:=zGn as.1 (show p.2 < q.2 by grind) l
   rw[<-e1,<-e2,v1] at this;exact this
structure Ca (S:Int) (g:Rat->Rat) (y a b:Rat) (e:Nat):Prop where
 lo:0<=a
 le:a<=b
 hi:b<=(S:Rat)
 iff:∀ x,0<=x->x<=(S:Rat)->(g x=y ↔ a<=x/\x<=b)
 dn:(a.den:Int)<=2^e/\(b.den:Int)<=2^e
 lt:∀ x,0<=x->x < a->g x < y
 gt:∀ x,x<=(S:Rat)->b < x->y < g x
theorem vE{d:D}(g:Gc 8 d){j:Nat}(hj:j < (clm 8 d).length){y:Rat}{e:Nat}(y0:0<=y)(y1:y<=(((clm 8 d).getD j 0:Int):Rat))(yd:(y.den:Int)<=2^e)(he:e<=3000):∃ a b,dD [d,.int (j:Int),dq y]=.ok (.v (.tup [dq a,dq b]))/\Ca (clm 8 d).sum (fun x=>(SF 8 d x).getD j 0) y a b (e+272):=by
 obtain⟨Ls,eL,ll,lg⟩:=rA 8 10 d g (by decide) (by decide)
 have gs:=g.sum;have hS:(clm 8 d).sum < 2^34:=by omega
 have h:=lg j hj;have ci:=g.2.2 _ (Qi (bQ hj));have zl:=h.sz hS (by omega)
 have zy:Sz (35+e) y:=nX y0 y1 (by omega) yd
 obtain⟨a,b,es,E⟩:=zIE (u:=307) (v:=579) (m:=35+e) h.ln (by have:=h.len;omega) zl zy (by omega) h.la y0 y1
 obtain⟨up,ab,bS,bd,vb,gt⟩:=zKc h.ln h.la E;obtain⟨v1,v2,v3⟩:=up.val h.ln.1 h.la;have da:=h.inv y a e y0 y1 yd up;have ab':0<=b:=Qr v2 ab
 have ltv:∀ x,0<=x->x < a->(SF 8 d x).getD j 0 < y:=fun x x0 l=>by
  have:=up.least h.ln.1 h.la x0 l
  rw[h.val x x0 (by grind)] at this;exact this
 have gtv:∀ x,x<=((clm 8 d).sum:Rat)->b < x->y < (SF 8 d x).getD j 0:=fun x x1 l=>by
  have:=gt x x1 l
  rw[h.val x (by grind) x1] at this;exact this
 refine⟨a,b,?_,v2,ab,bS,fun x x0 x1=>⟨fun z=>?_,fun z=>?_⟩,⟨da,?_⟩,ltv,gtv⟩
 ·unfold dD
  symm;rw[eL];symm;rw[decide_eq_false (by omega)];symm;rw[decide_eq_false (by omega)];symm;rw[zPm (show j < Ls.length by omega)];symm;rw[show kJ [lnD (Ls.getD j []),dq y]=_ from es];symm
 ·refine⟨QP.mp fun l=>?_,QP.mp fun l=>?_⟩
  ·have:=ltv x x0 l;grind
  ·have:=gtv x x1 l;grind
 ·have m1:=dI h.ln.1 h.la v2 z.1 x1
  have m2:=dI h.ln.1 h.la x0 z.2 bS;rw[v1] at m1;rw[vb] at m2;rw[h.val x x0 x1] at m1 m2;grind
 ·rcases bd with z | ⟨p,hp,z⟩
  ·rw[z];exact da
  ·rw[z];exact QV (h.den p hp) (rZ (by omega))
theorem zCE{d:D}(g:Gc 8 d){j:Nat}(hj:j < (clm 8 d).length):∃ l,CL (clm 8 d).sum ((clm 8 d).getD j 0) (fun x=>(SF 8 d x).getD j 0) 272 242 l:=by
 obtain⟨Ls,eL,ll,lg⟩:=rA 8 10 d g (by decide) (by decide)
 exact⟨_,lg j hj⟩
theorem zPl{d:D}(g:Gc 8 d){j:Nat}(hj:j < (clm 8 d).length){x:Rat}{e:Nat}(x0:0<=x)(x1:x<=((clm 8 d).sum:Rat))(xd:(x.den:Int)<=2^e):0<=(SF 8 d x).getD j 0/\(SF 8 d x).getD j 0<=(((clm 8 d).getD j 0:Int):Rat)/\(((SF 8 d x).getD j 0).den:Int)<=2^(e+272):=by
 obtain⟨l,h⟩:=zCE g hj;have v:=pF h.ln.1 h.la x0 x1;rw[h.val x x0 x1] at v;exact⟨v.1,v.2,h.yd x e x0 x1 xd⟩
theorem zQb{d:D}(g:Gc 8 d){j:Nat}(hj:j < (clm 8 d).length){x:Rat}(x0:0<=x)(x1:x<=((clm 8 d).sum:Rat)):0<=(SF 8 d x).getD j 0/\(SF 8 d x).getD j 0<=(((clm 8 d).getD j 0:Int):Rat):=by
 obtain⟨l,h⟩:=zCE g hj;have v:=pF h.ln.1 h.la x0 x1;rw[h.val x x0 x1] at v;exact v
theorem zQT{d:D}(g:Gc 8 d){j:Nat}(hj:j < (clm 8 d).length){x x':Rat}(x0:0<=x)(l:x<=x')(x1:x'<=((clm 8 d).sum:Rat)):(SF 8 d x).getD j 0<=(SF 8 d x').getD j 0:=by
 obtain⟨ln,h⟩:=zCE g hj;have v:=dI h.ln.1 h.la x0 l x1;rw[h.val x x0 (Qr l x1),h.val x' (Qr x0 l) x1] at v;exact v
theorem zQu{d:D}(g:Gc 8 d){x:Rat}{e:Nat}(x0:0<=x)(x1:x<=((clm 8 d).sum:Rat))(xd:(x.den:Int)<=2^e)(he:e<=1700):jR [d,dq x]=.ok (.f ((SF 8 d x).map dq)):=by
 obtain⟨xs,es,sh⟩:=zJM (m:=e+1) g (by decide) x0 x1 (Int.lt_of_le_of_lt xd (by rw[Int.pow_succ];have:=gA e;omega)) (by omega)
 rw[es,zOl g sh x0 x1]
theorem zMp{d:D}(g:Gc 8 d){j:Nat}(hj:j < (clm 8 d).length)(x:Rat):oIx (.lst ((SF 8 d x).map dq)) (.int (j:Int))=.ok (dq ((SF 8 d x).getD j 0)):=
 nR (Vf j) (by rw[QW,Qy,Qn (by rw[zGz g.1];exact hj)];rfl)
theorem zHb{S t b:Int}(S0:0<=S)(t0:0<=t)(tb:t<=b)(b0:0 < b):0<=Rat.divInt (S * t) b/\Rat.divInt (S * t) b<=(S:Rat)/\Dn b (Rat.divInt (S * t) b):=by
 have bp:(0:Rat) < (b:Rat):=by exact_mod_cast b0
 have e:Rat.divInt (S * t) b * (b:Rat)=((S * t:Int):Rat):=by rw[VA,Q7 (by grind)]
 refine⟨zGU (Xp S0 t0) b0,rW bp ?_,S * t,e⟩
 rw[e,<-QJ];exact Vu.mpr (YA tb S0)
abbrev R33(ns:List Int)(plan wd bg:Int)(d:D)(s7 s8 s9 s10 s11 s12 s13 s14 s15 s16:Sl):Rho:=[.val (.lst (ns.map D.int)),.val (.int plan),.val (.int wd),.val (.int bg),.val d,.val (.lst ((clm 8 d).map D.int)),.val (.int (clm 8 d).sum),s7,s8,s9,s10,s11,s12,s13,s14,s15,s16]
theorem zKr{ns:List Int}{plan wd bg:Int}{d:D}{s8 s9 s10 s11 s12 s13 s14 s15 s16:Sl}(g:Gc 8 d){j:Nat}(hj:j < (clm 8 d).length):zGM (R33 ns plan wd bg d (.val (.int (j:Int))) s8 s9 s10 s11 s12 s13 s14 s15 s16)=.ok (.nx (R33 ns plan wd bg d (.val (.int (j:Int))) s8 s9 s10 s11 s12 s13 s14 s15 s16)):=by
 have gs:=g.sum;have S0:(0:Rat)<=((clm 8 d).sum:Rat):=by exact_mod_cast gs.1
 symm;rw[zKY hj];symm;by_cases z:(clm 8 d).getD j 0=0
 ·rw[decide_eq_true z]
  symm;have zr:(((clm 8 d).getD j 0:Int):Rat)=0:=by rw[z];rfl
  obtain⟨a,b,ec,ca⟩:=vE (y:=0) (e:=0) g hj Qd (by rw[zr];exact Qd) (by decide) (by decide)
  have g0:∀ x,0<=x->x<=((clm 8 d).sum:Rat)->(SF 8 d x).getD j 0=0:=fun x x0 x1=>by
   have b:=zQb g hj x0 x1;rw[zr] at b;grind
  have a1:=(ca.iff 0 Qd S0).mp (g0 0 Qd S0);have b1:=(ca.iff _ S0 Qd).mp (g0 _ S0 Qd);have ea:a=0:=by have:=ca.lo;grind
  have eb:b=((clm 8 d).sum:Rat):=by have:=ca.hi;grind
  rw[show D.tup [D.int 0,D.int 1]=dq 0 from rfl,ec];symm;rw[ea,eb,show D.tup [D.tup [D.int 0,D.int 1],D.tup [D.int (clm 8 d).sum,D.int 1]]=dp (0,((clm 8 d).sum:Rat)) from rfl,zNl (by rw[dep_dp];decide)];symm
 ·rw[decide_eq_false z]
  symm
theorem zJF{ns:List Int}{plan wd bg cell:Int}{d:D}{s7 s9 s10 s11 s12 s13 s14 s15 s16:Sl}(g:Gc 8 d):∃ t9 t10 t11 t12 t13 t14 t15 t16,zEH (R33 ns plan wd bg d s7 (.val (.int cell)) s9 s10 s11 s12 s13 s14 s15 s16)=.ok (.nx (R33 ns plan wd bg d s7 (.val (.int cell)) t9 t10 t11 t12 t13 t14 t15 t16)):=by
 have gs:=g.sum;have l1:=zDo g.1;have l12:=g.2.1;have hS:(clm 8 d).sum < 2^34:=by omega
 have S0:(0:Rat)<=((clm 8 d).sum:Rat):=by exact_mod_cast gs.1
 obtain⟨mix,em,x0,x1⟩:=zBt cell 5 (by decide) (by decide)
 have m0:=QN (cell / 3) (show((clm 8 d).length:Int)≠0 by omega)
 have m1:=QO (cell / 3) (show 0 < ((clm 8 d).length:Int) by omega)
 symm;rw[oMod_i (by omega),fmod_pos _ (by omega)];generalize cell / 3 % ((clm 8 d).length:Int)=j at m0 m1;obtain⟨j,rfl⟩:=XG m0;have hj:j < (clm 8 d).length:=by omega
 symm;rw[em];symm;have b0:=QN (mix / 7) (b:=50) (by decide)
 have b1:=QO (mix / 7) (b:=50) (by decide)
 generalize mix / 7 % 50=bo at b0 b1;have t0:=QN (mix / 401) (show 1+bo+1≠0 by omega)
 have t1:=QO (mix / 401) (show 0 < 1+bo+1 by omega)
 rw[oMod_i (by omega),fmod_pos _ (by omega)];symm;generalize mix / 401 % (1+bo+1)=tp at t0 t1;rw[oMul_i (bW (m:=34) (n:=10) (by omega) (by omega) (by decide))];symm;rw[qT (n:=10) (by omega) (by omega) (by decide)];symm;obtain⟨p0,p1,pd⟩:=zHb gs.1 t0 (show tp<=1+bo by omega) (by omega)
 generalize Rat.divInt ((clm 8 d).sum * tp) (1+bo)=x at p0 p1 pd;have xd:(x.den:Int)<=2^6:=QV (pd.le (by omega)) (by omega)
 have zx:Sz 41 x:=nX p0 p1 hS xd;obtain⟨y0,y1,yd⟩:=zPl g hj p0 p1 xd;obtain⟨a,b,ec,ca⟩:=vE g hj y0 y1 yd (by decide)
 have cx:=(ca.iff x p0 p1).mp rfl;have za:Sz 700 a:=(nX ca.lo (Qr ca.le ca.hi) hS ca.dn.1).mono (by decide)
 have zb:Sz 700 b:=(nX (Qr ca.lo ca.le) ca.hi hS ca.dn.2).mono (by decide)
 rw[zQu g p0 p1 xd (by decide)];symm;rw[zMp g hj];symm;rw[ec];symm;rw[nI zx za (by decide)];symm;rw[decide_eq_false (QP.mpr cx.1)];symm;rw[nI zb zx (by decide)];symm;rw[decide_eq_false (QP.mpr cx.2)];symm
 have ends:∀ z,z=a∨z=b->∀ s14,zEm (R33 ns plan wd bg d s7 (.val (.int cell)) (.val (.int (j:Int))) (.val (.int mix)) (.val (.int (1+bo))) (.val (dq x)) (.val (dp (a,b))) (.val (dq z)) s14 s16)=.ok (.nx (R33 ns plan wd bg d s7 (.val (.int cell)) (.val (.int (j:Int))) (.val (.int mix)) (.val (.int (1+bo))) (.val (dq x)) (.val (dp (a,b))) (.val (dq z)) s14 s16)):=fun z hz s14=>by
  have h:=ca.lo;have h':=ca.le;have h'':=ca.hi
  have zz:0<=z/\z<=((clm 8 d).sum:Rat)/\(z.den:Int)<=2^(6+272+272)/\(SF 8 d z).getD j 0=(SF 8 d x).getD j 0:=by
   rcases hz with rfl | rfl
   ·exact⟨h,by grind,ca.dn.1,(ca.iff _ h (by grind)).mpr ⟨Qd,h'⟩⟩
   ·exact⟨by grind,h'',ca.dn.2,(ca.iff _ (by grind) h'').mpr ⟨h',Qd⟩⟩
  symm;rw[zQu g zz.1 zz.2.1 zz.2.2.1 (by decide)];symm;rw[zMp g hj];symm;rw[zz.2.2.2,ec];symm
 rw[show zJO (dp (a,b))=.ok [dq a,dq b] from rfl];symm;rw[dL rfl (ends a (.inl rfl) s15),dL rfl (ends b (.inr rfl) s15),gO];symm;have f0:0<=(x+((clm 8 d).sum:Rat)) * hf:=by rw[gW];grind
 have f1:(x+((clm 8 d).sum:Rat)) * hf<=((clm 8 d).sum:Rat):=by rw[gW];grind
 have f2:x<=(x+((clm 8 d).sum:Rat)) * hf:=by rw[gW];grind
 have fd:Dn ((1+bo) * 2) ((x+((clm 8 d).sum:Rat)) * hf):=zFL (pd.add (Dn.int _ _));have fd':(((x+((clm 8 d).sum:Rat)) * hf).den:Int)<=2^7:=QV (fd.le (by omega)) (by omega)
 have zS:Sz 40 ((clm 8 d).sum:Rat):=((Dn.int 1 _).sz (a:=34) (b:=1) (by decide) (by decide) S0 Qd hS).mono (by decide)
 have zh:Sz 3 hf:=Sz.of (n:=3) (t:=1) (b:=2) (by decide) (by decide) (by decide)
 rw[show D.tup [D.int (clm 8 d).sum,D.int 1]=dq ((clm 8 d).sum:Rat) from rfl,zFq zx zS (by decide)];symm;rw[show D.tup [D.int 1,D.int 2]=dq hf from rfl,zDe zh (zx.add zS) (by decide),Rat.mul_comm hf];symm;obtain⟨w0,w1,wd'⟩:=zPl g hj f0 f1 fd';obtain⟨a',b',ec',ca'⟩:=vE g hj w0 w1 wd' (by decide)
 have za':Sz 700 a':=(nX ca'.lo (Qr ca'.le ca'.hi) hS ca'.dn.1).mono (by decide)
 have zb':Sz 700 b':=(nX (Qr ca'.lo ca'.le) ca'.hi hS ca'.dn.2).mono (by decide)
 have up:=zQT g hj p0 f2 f1
 have na:¬ a' < a:=fun l=>by
  have h1:=ca.lt a' ca'.lo l;have h2:=(ca'.iff a' ca'.lo (Qr ca'.le ca'.hi)).mpr ⟨Qd,ca'.le⟩;have h2':(SF 8 d a').getD j 0=(SF 8 d ((x+((clm 8 d).sum:Rat)) * hf)).getD j 0:=h2;have h1':(SF 8 d a').getD j 0 < (SF 8 d x).getD j 0:=h1;grind
 have nb:¬ b' < b:=fun l=>by
  have h1:=ca'.gt b ca.hi l;have h2:=(ca.iff b (Qr ca.lo ca.le) ca.hi).mpr ⟨ca.le,Qd⟩;have h2':(SF 8 d b).getD j 0=(SF 8 d x).getD j 0:=h2;have h1':(SF 8 d ((x+((clm 8 d).sum:Rat)) * hf)).getD j 0 < (SF 8 d b).getD j 0:=h1;grind
 rw[zQu g f0 f1 fd' (by decide)];symm;rw[zMp g hj];symm;rw[ec'];symm;rw[nI za' za (by decide)];symm;rw[decide_eq_false na];symm;rw[nI zb' zb (by decide)];symm;rw[decide_eq_false nb];symm;exact⟨_,_,_,_,_,_,_,_,rfl⟩
theorem law_true:∀ ns:List Int,ns.length<=63->Big ns->zMz [.lst (ns.map D.int)]=.ok (.v (.bl true)):=by
 intro ns hl hb;obtain⟨m,m1,m2⟩:=hb.at 0;unfold zMz;symm;rw[zQ ns 0 (by decide),show((0:Int).toNat)=0 from rfl];generalize ns.getD 0 0=plan at m2;symm;rw[zML];symm;rw[zAD];symm;rw[zAD];symm;have bg:0<=(if decide (plan / 7 % 4=3)=true then 30 else 14:Int):=by split<;>decide
 obtain⟨cs,ec,lc⟩:=xQ ns 1 ((if decide (plan / 7 % 4=3)=true then 30 else 14)+1) (by decide) (by omega)
 obtain⟨d,ed,g⟩:=zAT (cs:=cs) (plan:=plan) (most:=if decide (plan / 7 % 4=3)=true then 12 else 8) (by omega) m2 m1 (by split<;>decide) (by split<;>decide)
 have l12:=g.2.1;rw[ec,ed];symm;rw[uT 10 d (oV g.1 (by decide)) (by rw[nH (m:=10) g.1 (by decide)];omega),nH (m:=10) g.1 (by decide)];symm;rw[xW (by omega) (by omega)];symm;refine mM (Q:=fun r=>r.bind fin=.ok (.v (.bl true))) (k:=zJo zEY) (fun i ρ=>∃ s7:Sl,ρ=R33 ns plan (if decide (plan / 7 % 4=3)=true then 1 else 0) (if decide (plan / 7 % 4=3)=true then 30 else 14) d s7 .un .un .un .un .un .un .un .un .un) ⟨_,rfl⟩ ?_ ?_
 ·rintro i e ρ he ⟨s7,rfl⟩
  obtain⟨hi,rfl⟩:=zHq he;rw[show(0:Int)+(i:Int) * 1=(i:Int) by omega];exact⟨_,zKr g (by omega),_,rfl⟩
 ·rintro ρ ⟨s7,rfl⟩
  symm;rw[zAD];symm;obtain⟨ms,em,lm⟩:=xQ ns ((if decide (plan / 7 % 4=3)=true then 30 else 14)+1) ((if decide (plan / 7 % 4=3)=true then 30 else 14)+if decide (plan / 7 % 4=3)=true then 5 else 9) (by omega) (by split<;>decide)
  rw[em];symm;rw[if_pos (by omega),show D.int 0::ms.map D.int=(0::ms).map D.int from rfl];symm;refine mM (Q:=fun r=>r.bind fin=.ok (.v (.bl true))) (k:=zJo zEN) (fun i ρ=>∃ s8 s9 s10 s11 s12 s13 s14 s15 s16:Sl,ρ=R33 ns plan (if decide (plan / 7 % 4=3)=true then 1 else 0) (if decide (plan / 7 % 4=3)=true then 30 else 14) d s7 s8 s9 s10 s11 s12 s13 s14 s15 s16) ⟨_,_,_,_,_,_,_,_,_,rfl⟩ ?_ ?_
  ·rintro i e ρ he ⟨s8,s9,s10,s11,s12,s13,s14,s15,s16,rfl⟩
   have he':((0::ms).map D.int)[i]?=some e:=he;obtain⟨c,hc,rfl⟩:=Qp.mp (Qi he');obtain⟨t9,t10,t11,t12,t13,t14,t15,t16,e⟩:=zJF (ns:=ns) (plan:=plan) (wd:=if decide (plan / 7 % 4=3)=true then 1 else 0) (bg:=if decide (plan / 7 % 4=3)=true then 30 else 14) (cell:=c) (s7:=s7) (s9:=s9) (s10:=s10) (s11:=s11) (s12:=s12) (s13:=s13) (s14:=s14) (s15:=s15) (s16:=s16) g;exact⟨_,e,_,_,_,_,_,_,_,_,_,rfl⟩
  ·rintro ρ ⟨s8,s9,s10,s11,s12,s13,s14,s15,s16,rfl⟩
   rfl
end Lw
namespace Lw
open PySem PySem.Spec PyProof.Rows L2 L3
local macro_rules | `(tactic| walk_at "s")=>`(tactic| exact⟨rfl,rfl,rfl,by decide +kernel,rfl,by decide +kernel,by decide +kernel⟩)
def top(i:Nat):Stmt:=PySem.Challenge.pw_catchhall_k33_whole_amount_and_catch.main.body.getD i (.Pass ⟨0,0,0,0⟩)
abbrev iD:Stmt:=top 12
theorem cK:FnScope ["one", "two", "rest"] ["one", "two"] (aI iD):=by walk_at "s"
abbrev zGj:Stmt:=top 13
theorem zCF:FnScope ["top", "bottom", "divisor"] ["top", "bottom"] (aI zGj):=by walk_at "s"
abbrev zCS:Stmt:=top 14
theorem zJY:FnScope ["number"] ["number"] (aI zCS):=by walk_at "s"
abbrev zHC:Stmt:=top 15
theorem zMP:FnScope ["one", "two"] ["one", "two"] (aI zHC):=by walk_at "s"
abbrev zCA:Stmt:=top 16
theorem zJp:FnScope ["one", "two"] ["one", "two"] (aI zCA):=by walk_at "s"
abbrev zDp:Stmt:=top 17
theorem zJd:FnScope ["one", "two"] ["one", "two"] (aI zDp):=by walk_at "s"
abbrev zFZ:Stmt:=top 18
theorem zMQ:FnScope ["one", "two"] ["one", "two"] (aI zFZ):=by walk_at "s"
abbrev zGq:Stmt:=top 19
theorem zLG:FnScope ["one", "two"] ["one", "two"] (aI zGq):=by walk_at "s"
abbrev zAf:Stmt:=top 20
theorem zIS:FnScope ["one", "two"] ["one", "two"] (aI zAf):=by walk_at "s"
abbrev mJ:Stmt:=top 21
theorem zAG:FnScope ["amount", "most"] ["amount", "most"] (aI mJ):=by walk_at "s"
abbrev iB:Stmt:=top 22
theorem rE:FnScope ["amount", "most"] ["amount", "most"] (aI iB):=by walk_at "s"
abbrev iJ:Stmt:=top 23
theorem pG:FnScope ["some", "bottom", "each"] ["some"] (aI iJ):=by walk_at "s"
abbrev zAF:Stmt:=top 28
theorem zIf:FnScope ["way", "weights", "claims"] ["way", "weights", "claims"] (aI zAF):=by walk_at "s"
abbrev mG:Stmt:=top 29
theorem zAa:FnScope ["way"] ["way"] (aI mG):=by walk_at "s"
abbrev iZ:Stmt:=top 30
theorem lH:FnScope ["claims", "claim"] ["claims"] (aI iZ):=by walk_at "s"
abbrev iF:Stmt:=top 31
theorem gC:FnScope ["way", "weights", "many", "due", "weight"] ["way", "weights", "many"] (aI iF):=by walk_at "s"
abbrev kC:Stmt:=top 32
theorem tK:FnScope ["way"] ["way"] (aI kC):=by walk_at "s"
abbrev zDq:Stmt:=top 33
theorem zKe:FnScope ["way", "weights", "claims", "catch"] ["way", "weights", "claims", "catch"] (aI zDq):=by walk_at "s"
abbrev eA:Stmt:=top 34
theorem eV:FnScope ["way", "weights", "claims", "catch", "most", "lacking"] ["way", "weights", "claims", "catch"] (aI eA):=by walk_at "s"
abbrev oD:Stmt:=top 35
theorem fL:FnScope ["claims", "catch", "left", "amounts", "claim", "amount"] ["claims", "catch"] (aI oD):=by walk_at "s"
abbrev mC:Stmt:=top 36
theorem cV:FnScope ["weights", "claims", "catch", "left", "weight", "amounts", "spot", "by_weight"] ["weights", "claims", "catch"] (aI mC):=by walk_at "s"
abbrev kW:Stmt:=top 37
theorem zAW:FnScope ["weights", "claims"] ["weights", "claims"] (aI kW):=by walk_at "s"
abbrev jK:Stmt:=top 38
theorem iI:FnScope ["claims", "catch", "most", "part"] ["claims", "catch"] (aI jK):=by walk_at "s"
abbrev jP:Stmt:=top 39
theorem lD:FnScope ["claims", "catch", "ones"] ["claims", "catch"] (aI jP):=by walk_at "s"
abbrev uC:Stmt:=top 42
theorem zFR:FnScope ["custom"] ["custom"] (aI uC):=by walk_at "s"
abbrev zAt:Stmt:=top 43
theorem zIp:FnScope ["custom"] ["custom"] (aI zAt):=by walk_at "s"
abbrev mK:Stmt:=top 44
theorem zAH:FnScope ["custom"] ["custom"] (aI mK):=by walk_at "s"
abbrev tJ:Stmt:=top 45
theorem zFU:FnScope ["custom"] ["custom"] (aI tJ):=by walk_at "s"
abbrev kX:Stmt:=top 46
theorem jG:FnScope ["custom", "claims", "kid"] ["custom"] (aI kX):=by walk_at "s"
abbrev qM:Stmt:=top 47
theorem zCR:FnScope ["custom"] ["custom"] (aI qM):=by walk_at "s"
abbrev jN:Stmt:=top 48
theorem qC:FnScope ["custom"] ["custom"] (aI jN):=by walk_at "s"
abbrev zK:Stmt:=top 49
theorem zGF:FnScope ["custom", "catch"] ["custom", "catch"] (aI zK):=by walk_at "s"
abbrev nD:Stmt:=top 50
theorem gI:FnScope ["custom", "catch", "amounts", "told", "kid", "amount"] ["custom", "catch"] (aI nD):=by walk_at "s"
abbrev vN:Stmt:=top 54
theorem rO:FnScope ["points", "kept", "point"] ["points"] (aI vN):=by walk_at "s"
abbrev lW:Stmt:=top 55
theorem iL:FnScope ["points", "spot", "ahead", "point"] ["points"] (aI lW):=by walk_at "s"
abbrev lY:Stmt:=top 56
theorem fU:FnScope ["ahead", "point", "later", "rise", "later_rise", "run", "later_run"] ["ahead", "point", "later"] (aI lY):=by walk_at "s"
abbrev yZ:Stmt:=top 57
theorem zHc:FnScope ["line"] ["line"] (aI yZ):=by walk_at "s"
abbrev zB:Stmt:=top 58
theorem zGw:FnScope ["line"] ["line"] (aI zB):=by walk_at "s"
abbrev zCW:Stmt:=top 59
theorem zJW:FnScope ["line", "x"] ["line", "x"] (aI zCW):=by walk_at "s"
abbrev uB:Stmt:=top 60
theorem qR:FnScope ["line", "y", "least", "end"] ["line", "y"] (aI uB):=by walk_at "s"
abbrev iE:Stmt:=top 61
theorem cM:FnScope ["line", "axis", "amount", "low", "high", "middle"] ["line", "axis", "amount"] (aI iE):=by walk_at "s"
abbrev zMN:Stmt:=top 62
theorem xH:FnScope ["line", "axis", "amount", "other", "spot", "there", "here", "part"] ["line", "axis", "amount"] (aI zMN):=by walk_at "s"
abbrev pN:Stmt:=top 63
theorem lR:FnScope ["one", "two", "bends", "joints"] ["one", "two"] (aI pN):=by walk_at "s"
abbrev sU:Stmt:=top 64
theorem zCc:FnScope ["line"] ["line"] (aI sU):=by walk_at "s"
abbrev zAr:Stmt:=top 65
theorem kH:FnScope ["one", "two", "both", "spot", "x"] ["one", "two"] (aI zAr):=by walk_at "s"
abbrev iY:Stmt:=top 67
theorem gU:FnScope ["way", "weights", "claims", "joints", "dealings"] ["way", "weights", "claims"] (aI iY):=by walk_at "s"
abbrev pE:Stmt:=top 68
theorem zFT:FnScope ["joints", "dealings", "spot"] ["joints", "dealings", "spot"] (aI pE):=by walk_at "s"
abbrev iW:Stmt:=top 69
theorem gY:FnScope ["way", "weights", "claims", "most", "early"] ["way", "weights", "claims"] (aI iW):=by walk_at "s"
abbrev mT:Stmt:=top 70
theorem fS:FnScope ["claims", "filled", "joints", "claim"] ["claims"] (aI mT):=by walk_at "s"
abbrev kN:Stmt:=top 71
theorem cI:FnScope ["weights", "claims", "filled", "weight", "levels", "joints", "spot"] ["weights", "claims"] (aI kN):=by walk_at "s"
abbrev mU:Stmt:=top 72
theorem vG:FnScope ["joints", "most"] ["joints", "most"] (aI mU):=by walk_at "s"
abbrev gK:Stmt:=top 73
theorem fP:FnScope ["joints", "kept", "joint"] ["joints"] (aI gK):=by walk_at "s"
abbrev kI:Stmt:=top 75
theorem eY:FnScope ["custom", "ways", "told", "kid", "way_line"] ["custom"] (aI kI):=by walk_at "s"
abbrev qN:Stmt:=top 76
theorem tR:FnScope ["claim", "start"] ["claim"] (aI qN):=by walk_at "s"
abbrev lU:Stmt:=top 77
theorem pA:FnScope ["custom", "boat", "amount", "told"] ["custom", "boat", "amount"] (aI lU):=by walk_at "s"
abbrev kM:Stmt:=top 79
theorem wN:FnScope ["script", "k"] ["script", "k"] (aI kM):=by walk_at "s"
abbrev qV:Stmt:=top 80
theorem eZ:FnScope ["top", "bottom", "one", "other", "rest"] ["top", "bottom"] (aI qV):=by walk_at "s"
abbrev rH:Stmt:=top 81
theorem zDv:FnScope ["one", "two"] ["one", "two"] (aI rH):=by walk_at "s"
abbrev nZ:Stmt:=top 83
theorem zBb:FnScope ["one", "two"] ["one", "two"] (aI nZ):=by walk_at "s"
abbrev qH:Stmt:=top 84
theorem zCI:FnScope ["one", "two"] ["one", "two"] (aI qH):=by walk_at "s"
abbrev tW:Stmt:=top 85
theorem zFn:FnScope ["cell", "k"] ["cell", "k"] (aI tW):=by walk_at "s"
abbrev nE:Stmt:=top 86
theorem gH:FnScope ["kids", "mix", "plan", "way", "weights", "great"] ["kids", "mix", "plan"] (aI nE):=by walk_at "s"
abbrev kG:Stmt:=top 87
theorem oI:FnScope ["custom"] ["custom"] (aI kG):=by walk_at "s"
abbrev jM:Stmt:=top 88
theorem cG:FnScope ["cells", "plan", "most", "pile", "many", "k", "mix", "few"] ["cells", "plan", "most"] (aI jM):=by walk_at "s"
abbrev lC:Stmt:=top 89
theorem jO:FnScope ["custom", "told", "kid"] ["custom"] (aI lC):=by walk_at "s"
abbrev vB:Stmt:=top 90
theorem gP:FnScope ["script", "plan", "wide", "begin", "custom", "claims", "whole_v", "k", "cell", "at", "mix", "bottom", "x", "found", "end", "further", "more"] ["script"] (aI vB):=by walk_at "s"
structure Bt (mg:Str->Option Value):Prop where
 abs:mg "abs" = none
 sorted:mg "sorted" = none
 range:mg "range" = none
 len:mg "len" = none
 sum:mg "sum" = none
 zip:mg "zip" = none
 tuple:mg "tuple" = none
 min:mg "min" = none
 reversed:mg "reversed" = none
 max:mg "max" = none
 int:mg "int" = none
structure Kt (K:PySem.W.Frag):Prop where
structure Ct (K:PySem.W.Frag) (mg:Str->Option Value):Prop where
 ACROSS:∃ v u,mg "ACROSS" = some u/\dE v u/\IsD K (fun _=>none) v d_ACROSS
 BOAT:∃ v u,mg "BOAT" = some u/\dE v u/\IsD K (fun _=>none) v d_BOAT
 HALF:∃ v u,mg "HALF" = some u/\dE v u/\IsD K (fun _=>none) v d_HALF
 NOUGHT:∃ v u,mg "NOUGHT" = some u/\dE v u/\IsD K (fun _=>none) v eU
 UP:∃ v u,mg "UP" = some u/\dE v u/\IsD K (fun _=>none) v d_UP
 WEIGHTED:∃ v u,mg "WEIGHTED" = some u/\dE v u/\IsD K (fun _=>none) v d_WEIGHTED
 CONTRARY:∃ a,IsTab K mg "CONTRARY" aX a
structure Rt (K:PySem.W.Frag) (mg:Str->Option Value):Prop where
 BadClaim:∃ C,Err K mg "BadClaim" C
 BadLine:∃ C,Err K mg "BadLine" C
 BadWay:∃ C,Err K mg "BadWay" C
 BadWeights:∃ C,Err K mg "BadWeights" C
 NoBoat:∃ C,Err K mg "NoBoat" C
 NoFraction:∃ C,Err K mg "NoFraction" C
 Outside:∃ C,Err K mg "Outside" C
 Unlike:∃ C,Err K mg "Unlike" C
structure Et (K:PySem.W.Frag) (mg:Str->Option Value):Prop where
theorem zQg{K:PySem.W.Frag}{h:Heap}{mg:Str->Option Value}{t0 t1 t2 t3 t4 t5 t6 t7 t8:Tok}{pHALF0:Addr}{o_pHALF0:Option Addr}{n_pHALF0:Nat}{s_pHALF0:Array (Option Value)}{pNOUGHT1:Addr}{o_pNOUGHT1:Option Addr}{n_pNOUGHT1:Nat}{s_pNOUGHT1:Array (Option Value)}{pWEIGHTED2:Addr}{o_pWEIGHTED2:Option Addr}{n_pWEIGHTED2:Nat}{s_pWEIGHTED2:Array (Option Value)}{a_CONTRARY:Addr}(X:K.In h)(G:h.Ns mainGlobals mg)(n_ACROSS:PySem.W.nsIn K mainGlobals "ACROSS" = some (some (.int (0) t0)))(n_BOAT:PySem.W.nsIn K mainGlobals "BOAT" = some (some (.str "boat" t1)))(n_HALF:PySem.W.nsIn K mainGlobals "HALF" = some (some (.ref pHALF0)))(pHALF0_l:K.lookup pHALF0=some ⟨.type "tuple", o_pHALF0,.seq #[.int (1) t2,.int (2) t3] n_pHALF0,s_pHALF0⟩)(n_NOUGHT:PySem.W.nsIn K mainGlobals "NOUGHT" = some (some (.ref pNOUGHT1)))(pNOUGHT1_l:K.lookup pNOUGHT1=some ⟨.type "tuple", o_pNOUGHT1,.seq #[.int (0) t4,.int (1) t5] n_pNOUGHT1,s_pNOUGHT1⟩)(n_UP:PySem.W.nsIn K mainGlobals "UP" = some (some (.int (1) t6)))(n_WEIGHTED:PySem.W.nsIn K mainGlobals "WEIGHTED" = some (some (.ref pWEIGHTED2)))(pWEIGHTED2_l:K.lookup pWEIGHTED2=some ⟨.type "tuple", o_pWEIGHTED2,.seq #[.str "even" t7,.str "lack" t8] n_pWEIGHTED2,s_pWEIGHTED2⟩)(n_CONTRARY:PySem.W.nsIn K mainGlobals "CONTRARY" = some (some (.ref a_CONTRARY)))(aX:PyProof.Rows.KTD.tabLook (PyProof.Rows.KTD.datLooks fun a=>K.lookup a) (fun a=>K.lookup a) a_CONTRARY (zJL Lw.aX)=true):Ct K mg:=⟨⟨.int (0),_,Q8 X G n_ACROSS,⟨_,rfl⟩,(.int _)⟩,⟨.str "boat", _,Q8 X G n_BOAT,⟨_,rfl⟩,(.str _)⟩,⟨.ref pHALF0,_,Q8 X G n_HALF,rfl,(.tup (.inr ⟨_,_,_,pHALF0_l,rfl,rfl,Yk rfl,(.cons (show dE (.int (1)) _ from ⟨_,rfl⟩) (.cons (show dE (.int (2)) _ from ⟨_,rfl⟩) .nil))⟩) (.cons (.int _) (.cons (.int _) .nil)))⟩,⟨.ref pNOUGHT1,_,Q8 X G n_NOUGHT,rfl,(.tup (.inr ⟨_,_,_,pNOUGHT1_l,rfl,rfl,Yk rfl,(.cons (show dE (.int (0)) _ from ⟨_,rfl⟩) (.cons (show dE (.int (1)) _ from ⟨_,rfl⟩) .nil))⟩) (.cons (.int _) (.cons (.int _) .nil)))⟩,⟨.int (1),_,Q8 X G n_UP,⟨_,rfl⟩,(.int _)⟩,⟨.ref pWEIGHTED2,_,Q8 X G n_WEIGHTED,rfl,(.tup (.inr ⟨_,_,_,pWEIGHTED2_l,rfl,rfl,Yk rfl,(.cons (show dE (.str "even") _ from ⟨_,rfl⟩) (.cons (show dE (.str "lack") _ from ⟨_,rfl⟩) .nil))⟩) (.cons (.str _) (.cons (.str _) .nil)))⟩,⟨a_CONTRARY,Q8 X G n_CONTRARY,fun h X=>PyProof.Rows.KTD.text_of_look X aX⟩⟩
theorem zQQ{K:PySem.W.Frag}{h:Heap}{mg:Str->Option Value}{C_BadClaim:Addr}{C_BadLine:Addr}{C_BadWay:Addr}{C_BadWeights:Addr}{C_NoBoat:Addr}{C_NoFraction:Addr}{C_Outside:Addr}{C_Unlike:Addr}(X:K.In h)(G:h.Ns mainGlobals mg)(n_BadClaim:PySem.W.nsIn K mainGlobals "BadClaim" = some (some (.ref C_BadClaim)))(x_BadClaim:PySem.W.excIn K C_BadClaim [.type "ValueError", .type "Exception", .type "BaseException", .type "object"] "ValueError.__new__" = true)(n_BadLine:PySem.W.nsIn K mainGlobals "BadLine" = some (some (.ref C_BadLine)))(x_BadLine:PySem.W.excIn K C_BadLine [.type "ValueError", .type "Exception", .type "BaseException", .type "object"] "ValueError.__new__" = true)(n_BadWay:PySem.W.nsIn K mainGlobals "BadWay" = some (some (.ref C_BadWay)))(x_BadWay:PySem.W.excIn K C_BadWay [.type "ValueError", .type "Exception", .type "BaseException", .type "object"] "ValueError.__new__" = true)(n_BadWeights:PySem.W.nsIn K mainGlobals "BadWeights" = some (some (.ref C_BadWeights)))(x_BadWeights:PySem.W.excIn K C_BadWeights [.type "ValueError", .type "Exception", .type "BaseException", .type "object"] "ValueError.__new__" = true)(n_NoBoat:PySem.W.nsIn K mainGlobals "NoBoat" = some (some (.ref C_NoBoat)))(x_NoBoat:PySem.W.excIn K C_NoBoat [.type "ValueError", .type "Exception", .type "BaseException", .type "object"] "ValueError.__new__" = true)(n_NoFraction:PySem.W.nsIn K mainGlobals "NoFraction" = some (some (.ref C_NoFraction)))(x_NoFraction:PySem.W.excIn K C_NoFraction [.type "ValueError", .type "Exception", .type "BaseException", .type "object"] "ValueError.__new__" = true)(n_Outside:PySem.W.nsIn K mainGlobals "Outside" = some (some (.ref C_Outside)))(x_Outside:PySem.W.excIn K C_Outside [.type "ValueError", .type "Exception", .type "BaseException", .type "object"] "ValueError.__new__" = true)(n_Unlike:PySem.W.nsIn K mainGlobals "Unlike" = some (some (.ref C_Unlike)))(x_Unlike:PySem.W.excIn K C_Unlike [.type "ValueError", .type "Exception", .type "BaseException", .type "object"] "ValueError.__new__" = true):Rt K mg:=⟨sF X G n_BadClaim x_BadClaim VF,sF X G n_BadLine x_BadLine VF,sF X G n_BadWay x_BadWay VF,sF X G n_BadWeights x_BadWeights VF,sF X G n_NoBoat x_NoBoat VF,sF X G n_NoFraction x_NoFraction VF,sF X G n_Outside x_Outside VF,sF X G n_Unlike x_Unlike VF⟩
theorem zQS{K:PySem.W.Frag}{h:Heap}{mg:Str->Option Value}(X:K.In h)(G:h.Ns mainGlobals mg):Et K mg:=⟨⟩
section
variable{P:Program}{w:World}{K:PySem.W.Frag}{mg:Str->Option Value}{base:Heap}{k:Nat}{f:Addr}{fd:FuncData}
theorem qJ(F:Fn K mg "common_divisor" iD ["one", "two"] f fd)(B:Bt mg)(KT:Kt K)(C:Ct K mg)(R:Rt K mg)(ET:Et K mg)  : CanM P w K mg base (k+1) "common_divisor" ["one", "two"] dM:=
  aO F cK fun cdv A outer s H E G W WR=>(aG (bF (i:=0) cK.nd rfl (Or.inl rfl) (aW sR zDN rfl B.abs boot_abs (aA (aB 0 (pv 0)) aF aD)))
 (aG (bF (i:=1) cK.nd rfl (Or.inl rfl) (aW sR zDN rfl B.abs boot_abs (aA (aB 1 (pv 1)) aF aD)))
 (aG (zAd W.own (tst (neA W.u) zNC (aB 1 (pv 1)) (aU aJ fun _=>.int _) (bH _)) (aG (bF (i:=2) cK.nd rfl (Or.inl rfl) (aY dW lM (aB 0 (pv 0)) (aB 1 (pv 1))))
 (aG (bF (i:=0) cK.nd rfl (Or.inl rfl) (aB 1 (pv 1)))
 (aM (bF (i:=1) cK.nd rfl (Or.inl rfl) (aB 2 (pv 2)))))))
 (aM (cH (aB 0 (pv 0)))))))
theorem zJP(F:Fn K mg "whole" zCS ["number"] f fd)(B:Bt mg)(KT:Kt K)(C:Ct K mg)(R:Rt K mg)(ET:Et K mg)  : CanM P w K mg base (k+1) "whole" ["number"] bN:=
 aO F zJY fun cdv A outer s H E G W WR=>(aM (cH (eN (aA (aB 0 (pv 0)) (aA (aU aJ fun _=>.int _) aF bL) aD))))
theorem zMn(F:Fn K mg "less" zGq ["one", "two"] f fd)(B:Bt mg)(KT:Kt K)(C:Ct K mg)(R:Rt K mg)(ET:Et K mg)  : CanM P w K mg base (k+1) "less" ["one", "two"] fN:=
 aO F zLG fun cdv A outer s H E G W WR=>(aM (cH (zBE pJ zDV (aY cC iH (aS aL bR (aB 0 (pv 0)) (aU aJ fun _=>.int _) (fun _ _=>rfl)) (aS aL bR (aB 1 (pv 1)) (aU aJ fun _=>.int _) (fun _ _=>rfl))) (aY cC iH (aS aL bR (aB 1 (pv 1)) (aU aJ fun _=>.int _) (fun _ _=>rfl)) (aS aL bR (aB 0 (pv 0)) (aU aJ fun _=>.int _) (fun _ _=>rfl))) (bH _))))
theorem zIg:RankDef iJ:=⟨rfl,rfl,rfl,rfl,rfl,fun _ _ _=>⟨_,_,rfl,rfl,rfl⟩⟩
theorem zGN(F:Fn K mg "ranked" iJ ["some"] f fd)(B:Bt mg)(KT:Kt K)(C:Ct K mg)(R:Rt K mg)(ET:Et K mg){T:Addr}(hT:pL K mg T)(hB:BMn base mg):CanR P w K mg base (k+1) jF:=
 zLN F pG zIg hT hB B.sorted B.range B.len rfl fun cdv A outer s H E G W WR=>⟨(bF (i:=1) pG.nd rfl (Or.inr rfl) (aU aJ fun _=>.int _)),(mO W.own W.calm (iS (aB 0 (pv 0))) (eR (i:=2) pG.nd rfl (Or.inl rfl)) cA (aM (bF (i:=1) pG.nd rfl (Or.inr rfl) (aY cC iH (aB 1 (pv 1)) (aS aL bR (aB 2 (pv 2)) (aU aJ fun _=>.int _) (fun _ _=>rfl))))))⟩
theorem zAu(F:Fn K mg "refuse_way" mG ["way"] f fd)(B:Bt mg)(KT:Kt K)(C:Ct K mg)(R:Rt K mg)(ET:Et K mg)  : CanM P w K mg base (k+1) "refuse_way" ["way"] eD:=
 aO F zAa fun cdv A outer s H E G W WR=>(aM (jD (zJi C.CONTRARY.choose_spec rfl (aB 0 (pv 0)) (by with_unfolding_all rfl)) (aM (gJ W WR R.BadWay rfl (aA (aU cE fun _=>.str _) aF bL))) bO))
theorem sL(F:Fn K mg "refuse_claims" iZ ["claims"] f fd)(B:Bt mg)(KT:Kt K)(C:Ct K mg)(R:Rt K mg)(ET:Et K mg)  : CanM P w K mg base (k+1) "refuse_claims" ["claims"] eE:=
  aO F lH fun cdv A outer s H E G W WR=>(aG (jD (tst (eqA W.u) sJ (aW aT eO rfl B.len QD (aA (aB 0 (pv 0)) aF aD)) (aU aJ fun _=>.int _) (bH _)) (aM (gJ W WR R.BadClaim rfl (aA (aU cE fun _=>.str _) aF bL))) bO)
 (aM (mO W.own W.calm (iS (aB 0 (pv 0))) (eR (i:=1) lH.nd rfl (Or.inl rfl)) cA (aM (jD (tst pJ zDV (aB 1 (pv 1)) (aU aJ fun _=>.int _) (bH _)) (aM (gJ W WR R.BadClaim rfl (aA (aU cE fun _=>.str _) aF bL))) bO)))))
theorem qW(F:Fn K mg "refuse_weights" iF ["way", "weights", "many"] f fd)(B:Bt mg)(KT:Kt K)(C:Ct K mg)(R:Rt K mg)(ET:Et K mg)  : CanM P w K mg base (k+1) "refuse_weights" ["way", "weights", "many"] bU:=
  aO F gC fun cdv A outer s H E G W WR=>(aG (bF (i:=3) gC.nd rfl (Or.inl rfl) (zLQ (tst (inA W.u) zRl (aB 0 (pv 0)) (bJ rfl C.WEIGHTED) (by with_unfolding_all rfl)) (aB 2 (pv 2)) (aU aJ fun _=>.int _)))
 (aG (jD (tst (neA W.u) zNC (aW aT eO rfl B.len QD (aA (aB 1 (pv 1)) aF aD)) (aB 3 (pv 3)) (bH _)) (aM (gJ W WR R.BadWeights rfl (aA (aU cE fun _=>.str _) aF bL))) bO)
 (aM (mO W.own W.calm (iS (aB 1 (pv 1))) (eR (i:=4) gC.nd rfl (Or.inl rfl)) cA (aM (jD (PWd.pt (zPa (tst pJ zDV (aB 4 (pv 4)) (aU aJ fun _=>.int _) (bH _)) (zIs (tst zNp zQn (aB 4 (pv 4)) (aY zAw zJg (aU aJ fun _=>.int _) (aU aJ fun _=>.int _)) (bH _))))) (aM (gJ W WR R.BadWeights rfl (aA (aU cE fun _=>.str _) aF bL))) bO))))))
theorem zFM(F:Fn K mg "is_boat" uC ["custom"] f fd)(B:Bt mg)(KT:Kt K)(C:Ct K mg)(R:Rt K mg)(ET:Et K mg)  : CanM P w K mg base (k+1) "is_boat" ["custom"] cD:=
 aO F zFR fun cdv A outer s H E G W WR=>(aM (cH (zBE (eqA W.u) sJ (aS aL bR (aB 0 (pv 0)) (aU aJ fun _=>.int _) (fun _ _=>rfl)) (bJ rfl C.BOAT) (bH _))))
theorem zGR(F:Fn K mg "way_of" zAt ["custom"] f fd)(B:Bt mg)(KT:Kt K)(C:Ct K mg)(R:Rt K mg)(ET:Et K mg)  : CanM P w K mg base (k+1) "way_of" ["custom"] iK:=
 aO F zIp fun cdv A outer s H E G W WR=>(aM (cH (aS aL bR (aB 0 (pv 0)) (aU aJ fun _=>.int _) (fun _ _=>rfl))))
theorem zV(F:Fn K mg "weights_of" mK ["custom"] f fd)(B:Bt mg)(KT:Kt K)(C:Ct K mg)(R:Rt K mg)(ET:Et K mg)  : CanM P w K mg base (k+1) "weights_of" ["custom"] cP:=
 aO F zAH fun cdv A outer s H E G W WR=>(aM (cH (aS aL bR (aB 0 (pv 0)) (aU aJ fun _=>.int _) (fun _ _=>rfl))))
theorem zIo(F:Fn K mg "length" yZ ["line"] f fd)(B:Bt mg)(KT:Kt K)(C:Ct K mg)(R:Rt K mg)(ET:Et K mg)  : CanM P w K mg base (k+1) "length" ["line"] kO:=
 aO F zHc fun cdv A outer s H E G W WR=>(aM (cH (aS aL bR (aS aL bR (aB 0 (pv 0)) (pO (aU aJ fun _=>.int _)) (fun _ _=>rfl)) (bJ rfl C.ACROSS) (fun _ _=>rfl))))
theorem zHM(F:Fn K mg "height" zB ["line"] f fd)(B:Bt mg)(KT:Kt K)(C:Ct K mg)(R:Rt K mg)(ET:Et K mg)  : CanM P w K mg base (k+1) "height" ["line"] kQ:=
 aO F zGw fun cdv A outer s H E G W WR=>(aM (cH (aS aL bR (aS aL bR (aB 0 (pv 0)) (pO (aU aJ fun _=>.int _)) (fun _ _=>rfl)) (bJ rfl C.UP) (fun _ _=>rfl))))
theorem zHs(F:Fn K mg "places" sU ["line"] f fd)(B:Bt mg)(KT:Kt K)(C:Ct K mg)(R:Rt K mg)(ET:Et K mg)  : CanM P w K mg base (k+1) "places" ["line"] nL:=
 aO F zCc fun cdv A outer s H E G W WR=>(aM (dX (eX W zCc.nd rfl (sc:=aI sU) rfl rfl (by decide +kernel) (iS (aB 0 (pv 0))) (fun C2 s2 H2 fp2 G W=>⟨jI,(aS aL bR (aB 1 (pv 1)) (bJ rfl C.ACROSS) (fun _ _=>rfl))⟩))))
theorem wG(F:Fn K mg "_law_cell_at" kM ["script", "k"] f fd)(B:Bt mg)(KT:Kt K)(C:Ct K mg)(R:Rt K mg)(ET:Et K mg)  : CanM P w K mg base (k+1) "_law_cell_at" ["script", "k"] fV:=
  aO F wN fun cdv A outer s H E G W WR=>(aG (jD (tst pJ zDV (aB 1 (pv 1)) (aW aT eO rfl B.len QD (aA (aB 0 (pv 0)) aF aD)) (bH _)) (aM (cH (aS aL bR (aB 0 (pv 0)) (aB 1 (pv 1)) (fun _ _=>rfl)))) bO)
 (aM (cH (aU aJ fun _=>.int _))))
theorem zCD(F:Fn K mg "_law_made" qV ["top", "bottom"] f fd)(B:Bt mg)(KT:Kt K)(C:Ct K mg)(R:Rt K mg)(ET:Et K mg)  : CanM P w K mg base (k+1) "_law_made" ["top", "bottom"] eH:=
  aO F eZ fun cdv A outer s H E G W WR=>(aG (bF (i:=2) eZ.nd rfl (Or.inl rfl) (aW sR zDN rfl B.abs boot_abs (aA (aB 0 (pv 0)) aF aD)))
 (aG (bF (i:=3) eZ.nd rfl (Or.inl rfl) (aW sR zDN rfl B.abs boot_abs (aA (aB 1 (pv 1)) aF aD)))
 (aG (zAd W.own (tst zNp zQn (aB 3 (pv 3)) (aU aJ fun _=>.int _) (bH _)) (aG (bF (i:=4) eZ.nd rfl (Or.inl rfl) (aY dW lM (aB 2 (pv 2)) (aB 3 (pv 3))))
 (aG (bF (i:=2) eZ.nd rfl (Or.inl rfl) (aB 3 (pv 3)))
 (aM (bF (i:=3) eZ.nd rfl (Or.inl rfl) (aB 4 (pv 4)))))))
 (aG (jD (tst pJ zDV (aB 1 (pv 1)) (aU aJ fun _=>.int _) (bH _)) (aM (bF (i:=2) eZ.nd rfl (Or.inl rfl) (aY vO zDc (aU aJ fun _=>.int _) (aB 2 (pv 2))))) bO)
 (aM (cH (eN (aA (aY cW kF (aB 0 (pv 0)) (aB 2 (pv 2))) (aA (aY cW kF (aB 1 (pv 1)) (aB 2 (pv 2))) aF bK) bK))))))))
theorem zCX(F:Fn K mg "_law_less" qH ["one", "two"] f fd)(B:Bt mg)(KT:Kt K)(C:Ct K mg)(R:Rt K mg)(ET:Et K mg)  : CanM P w K mg base (k+1) "_law_less" ["one", "two"] fH:=
 aO F zCI fun cdv A outer s H E G W WR=>(aM (cH (zBE pJ zDV (aY cC iH (aS aL bR (aB 0 (pv 0)) (aU aJ fun _=>.int _) (fun _ _=>rfl)) (aS aL bR (aB 1 (pv 1)) (aU aJ fun _=>.int _) (fun _ _=>rfl))) (aY cC iH (aS aL bR (aB 1 (pv 1)) (aU aJ fun _=>.int _) (fun _ _=>rfl)) (aS aL bR (aB 0 (pv 0)) (aU aJ fun _=>.int _) (fun _ _=>rfl))) (bH _))))
theorem zFu(F:Fn K mg "_law_mix" tW ["cell", "k"] f fd)(B:Bt mg)(KT:Kt K)(C:Ct K mg)(R:Rt K mg)(ET:Et K mg)  : CanM P w K mg base (k+1) "_law_mix" ["cell", "k"] iU:=
 aO F zFn fun cdv A outer s H E G W WR=>(aM (cH (aY dW lM (aY dU lO (aY dU lO (aY cC iH (aB 0 (pv 0)) (aU aJ fun _=>.int _)) (aY cC iH (aU aJ fun _=>.int _) (aB 1 (pv 1)))) (aU aJ fun _=>.int _)) (aU aJ fun _=>.int _))))
theorem zDA(F:Fn K mg "_law_knot" nE ["kids", "mix", "plan"] f fd)(B:Bt mg)(KT:Kt K)(C:Ct K mg)(R:Rt K mg)(ET:Et K mg)  : CanM P w K mg base (k+1) "_law_knot" ["kids", "mix", "plan"] eI:=
  aO F gH fun cdv A outer s H E G W WR=>(aG (bF (i:=3) gH.nd rfl (Or.inl rfl) (aS aL bR (PEf.d (cN (aA (aU cE fun _=>.str _) (aA (aU cE fun _=>.str _) (aA (aU cE fun _=>.str _) (aA (aU cE fun _=>.str _) (aA (aU cE fun _=>.str _) (aA (aU cE fun _=>.str _) aF bL) bL) bL) bL) bL) bL))) (aY dW lM (aY cW kF (aB 1 (pv 1)) (aU aJ fun _=>.int _)) (aU aJ fun _=>.int _)) (fun _ _=>rfl)))
 (aG (bF (i:=4) gH.nd rfl (Or.inl rfl) (eN aF))
 (aG (jD (tst (inA W.u) zRl (aB 3 (pv 3)) (eN (aA (aU cE fun _=>.str _) (aA (aU cE fun _=>.str _) aF bL) bL)) (by with_unfolding_all rfl)) (aG (bF (i:=5) gH.nd rfl (Or.inr rfl) (aS aL bR (PEf.d (cN (aA (aU aJ fun _=>.int _) (aA (aY zAw zJg (aU aJ fun _=>.int _) (aU aJ fun _=>.int _)) aF bK) bL))) (aY cW kF (aY dW lM (aY cW kF (aB 2 (pv 2)) (aU aJ fun _=>.int _)) (aU aJ fun _=>.int _)) (aU aJ fun _=>.int _)) (fun _ _=>rfl)))
 (aM (bF (i:=4) gH.nd rfl (Or.inl rfl) (oX kZ zHX rfl B.tuple boot_tuple (aA (PEf.d (eX W gH.nd rfl (sc:=aI nE) rfl rfl (by decide +kernel) (zEQ rfl B.range (aA (aW aT eO rfl B.len QD (aA (aB 0 (pv 0)) aF aD)) aF aN)) (fun C2 s2 H2 fp2 G W=>⟨jI,(aY dU lO (aU aJ fun _=>.int _) (aY dW lM (aY cW kF (aY dW lM (aY zAw zJg (aY dU lO (aY dU lO (aB 1 (pv 1)) (aY cC iH (aU aJ fun _=>.int _) (aB 6 (pv 6)))) (aU aJ fun _=>.int _)) (aU aJ fun _=>.int _)) (aU aJ fun _=>.int _)) (aU aJ fun _=>.int _)) (aB 5 (pv 5))))⟩))) aF))))) bO)
 (aM (cH (eN (aA (aB 3 (pv 3)) (aA (aB 4 (pv 4)) (aA (oX kZ zHX rfl B.tuple boot_tuple (aA (aB 0 (pv 0)) aF aD)) aF aN) aD) aD)))))))
theorem zNk(F:Fn K mg "made" zGj ["top", "bottom"] f fd)(B:Bt mg)(KT:Kt K)(C:Ct K mg)(R:Rt K mg)(ET:Et K mg)(c_common_divisor:CanM P w K mg base k "common_divisor" ["one", "two"] dM):CanM P w K mg base (k+1) "made" ["top", "bottom"] iT:=
  aO F zCF fun cdv A outer s H E G W WR=>(aG (jD (tst (eqA W.u) sJ (aB 1 (pv 1)) (aU aJ fun _=>.int _) (bH _)) (aM (gJ W WR R.NoFraction rfl (aA (aU cE fun _=>.str _) aF bL))) bO)
 (aG (bF (i:=2) zCF.nd rfl (Or.inl rfl) (aK W c_common_divisor rfl (aA (aB 0 (pv 0)) (aA (aB 1 (pv 1)) aF aD) aD)))
 (aG (jD (tst pJ zDV (aB 1 (pv 1)) (aU aJ fun _=>.int _) (bH _)) (aM (bF (i:=2) zCF.nd rfl (Or.inl rfl) (pO (aB 2 (pv 2))))) bO)
 (aM (cH (eN (aA (aY cW kF (aB 0 (pv 0)) (aB 2 (pv 2))) (aA (aY cW kF (aB 1 (pv 1)) (aB 2 (pv 2))) aF bK) bK)))))))
theorem zIn(F:Fn K mg "lesser" zAf ["one", "two"] f fd)(B:Bt mg)(KT:Kt K)(C:Ct K mg)(R:Rt K mg)(ET:Et K mg)(c_less:CanM P w K mg base k "less" ["one", "two"] fN):CanM P w K mg base (k+1) "lesser" ["one", "two"] lB:=
 aO F zIS fun cdv A outer s H E G W WR=>(aM (cH (zLQ (zAK (aK W c_less rfl (aA (aB 0 (pv 0)) (aA (aB 1 (pv 1)) aF aD) aD))) (aB 0 (pv 0)) (aB 1 (pv 1)))))
theorem zE(F:Fn K mg "is_outside" mJ ["amount", "most"] f fd)(B:Bt mg)(KT:Kt K)(C:Ct K mg)(R:Rt K mg)(ET:Et K mg)(c_less:CanM P w K mg base k "less" ["one", "two"] fN):CanM P w K mg base (k+1) "is_outside" ["amount", "most"] dZ:=
 aO F zAG fun cdv A outer s H E G W WR=>(aM (cH (zQJ (aK W c_less rfl (aA (aB 0 (pv 0)) (aA (bJ rfl C.NOUGHT) aF aD) aD)) (zOq (aK W c_less rfl (aA (aB 1 (pv 1)) (aA (aB 0 (pv 0)) aF aD) aD))))))
theorem zGd(F:Fn K mg "looked" zAF ["way", "weights", "claims"] f fd)(B:Bt mg)(KT:Kt K)(C:Ct K mg)(R:Rt K mg)(ET:Et K mg)(c_refuse_way:CanM P w K mg base k "refuse_way" ["way"] eD)(c_refuse_claims:CanM P w K mg base k "refuse_claims" ["claims"] eE)(c_refuse_weights:CanM P w K mg base k "refuse_weights" ["way", "weights", "many"] bU):CanM P w K mg base (k+1) "looked" ["way", "weights", "claims"] kT:=
  aO F zIf fun cdv A outer s H E G W WR=>(aG (mI (aK W c_refuse_way rfl (aA (aB 0 (pv 0)) aF aD)))
 (aG (mI (aK W c_refuse_claims rfl (aA (aB 2 (pv 2)) aF aD)))
 (aM (mI (aK W c_refuse_weights rfl (aA (aB 0 (pv 0)) (aA (aB 1 (pv 1)) (aA (aW aT eO rfl B.len QD (aA (aB 2 (pv 2)) aF aD)) aF aN) aD) aD))))))
theorem tI(F:Fn K mg "contrary_way" kC ["way"] f fd)(B:Bt mg)(KT:Kt K)(C:Ct K mg)(R:Rt K mg)(ET:Et K mg)(c_refuse_way:CanM P w K mg base k "refuse_way" ["way"] eD):CanM P w K mg base (k+1) "contrary_way" ["way"] dQ:=
  aO F tK fun cdv A outer s H E G W WR=>(aG (mI (aK W c_refuse_way rfl (aA (aB 0 (pv 0)) aF aD)))
 (aM (cH (zKH C.CONTRARY.choose_spec rfl (aB 0 (pv 0)) (fun _ _=>rfl)))))
theorem zFD(F:Fn K mg "kids_of" tJ ["custom"] f fd)(B:Bt mg)(KT:Kt K)(C:Ct K mg)(R:Rt K mg)(ET:Et K mg)(c_is_boat:CanM P w K mg base k "is_boat" ["custom"] cD):CanM P w K mg base (k+1) "kids_of" ["custom"] cU:=
 aO F zFU fun cdv A outer s H E G W WR=>(aM (cH (zLQ (zAK (aK W c_is_boat rfl (aA (aB 0 (pv 0)) aF aD))) (eN aF) (aS aL bR (aB 0 (pv 0)) (aU aJ fun _=>.int _) (fun _ _=>rfl)))))
theorem yO(F:Fn K mg "refuse_bad" lW ["points"] f fd)(B:Bt mg)(KT:Kt K)(C:Ct K mg)(R:Rt K mg)(ET:Et K mg)(c_less:CanM P w K mg base k "less" ["one", "two"] fN):CanM P w K mg base (k+1) "refuse_bad" ["points"] gZ:=
  aO F iL fun cdv A outer s H E G W WR=>(aG (jD (tst (eqA W.u) sJ (aW aT eO rfl B.len QD (aA (aB 0 (pv 0)) aF aD)) (aU aJ fun _=>.int _) (bH _)) (aM (gJ W WR R.BadLine rfl (aA (aU cE fun _=>.str _) aF bL))) bO)
 (aG (jD (tst (neA W.u) zNC (aS aL bR (aB 0 (pv 0)) (aU aJ fun _=>.int _) (fun _ _=>rfl)) (eN (aA (bJ rfl C.NOUGHT) (aA (bJ rfl C.NOUGHT) aF aD) aD)) (bH _)) (aM (gJ W WR R.BadLine rfl (aA (aU cE fun _=>.str _) aF bL))) bO)
 (aM (mO W.own W.calm (zPy rfl B.range (aA (aU aJ fun _=>.int _) (aA (aW aT eO rfl B.len QD (aA (aB 0 (pv 0)) aF aD)) aF aN) bL)) (eR (i:=1) iL.nd rfl (Or.inl rfl)) cA (aG (bF (i:=2) iL.nd rfl (Or.inl rfl) (aS aL bR (aB 0 (pv 0)) (aY vO zDc (aB 1 (pv 1)) (aU aJ fun _=>.int _)) (fun _ _=>rfl)))
 (aG (bF (i:=3) iL.nd rfl (Or.inl rfl) (aS aL bR (aB 0 (pv 0)) (aB 1 (pv 1)) (fun _ _=>rfl)))
 (aG (jD (zRt (zAK (aK W c_less rfl (aA (aS aL bR (aB 2 (pv 2)) (bJ rfl C.ACROSS) (fun _ _=>rfl)) (aA (aS aL bR (aB 3 (pv 3)) (bJ rfl C.ACROSS) (fun _ _=>rfl)) aF aR) aR)))) (aM (gJ W WR R.BadLine rfl (aA (aU cE fun _=>.str _) aF bL))) bO)
 (aM (jD (zAK (aK W c_less rfl (aA (aS aL bR (aB 3 (pv 3)) (bJ rfl C.UP) (fun _ _=>rfl)) (aA (aS aL bR (aB 2 (pv 2)) (bJ rfl C.UP) (fun _ _=>rfl)) aF aR) aR))) (aM (gJ W WR R.BadLine rfl (aA (aU cE fun _=>.str _) aF bL))) bO)))))))))
theorem qI(F:Fn K mg "first_reaching" iE ["line", "axis", "amount"] f fd)(B:Bt mg)(KT:Kt K)(C:Ct K mg)(R:Rt K mg)(ET:Et K mg)(c_less:CanM P w K mg base k "less" ["one", "two"] fN):CanM P w K mg base (k+1) "first_reaching" ["line", "axis", "amount"] bT:=
  aO F cM fun cdv A outer s H E G W WR=>(aG (bF (i:=3) cM.nd rfl (Or.inl rfl) (aU aJ fun _=>.int _))
 (aG (bF (i:=4) cM.nd rfl (Or.inl rfl) (aY vO zDc (aW aT eO rfl B.len QD (aA (aB 0 (pv 0)) aF aD)) (aU aJ fun _=>.int _)))
 (aG (zAd W.own (tst pJ zDV (aB 3 (pv 3)) (aB 4 (pv 4)) (bH _)) (aG (bF (i:=5) cM.nd rfl (Or.inl rfl) (aY cW kF (aY dU lO (aB 3 (pv 3)) (aB 4 (pv 4))) (aU aJ fun _=>.int _)))
 (aM (jD (zAK (aK W c_less rfl (aA (aS aL bR (aS aL bR (aB 0 (pv 0)) (aB 5 (pv 5)) (fun _ _=>rfl)) (aB 1 (pv 1)) (fun _ _=>rfl)) (aA (aB 2 (pv 2)) aF aD) aR))) (aM (bF (i:=3) cM.nd rfl (Or.inl rfl) (aY dU lO (aB 5 (pv 5)) (aU aJ fun _=>.int _)))) (aM (bF (i:=4) cM.nd rfl (Or.inl rfl) (aB 5 (pv 5))))))))
 (aM (cH (aB 3 (pv 3)))))))
theorem zIM(F:Fn K mg "merged" zAr ["one", "two"] f fd)(B:Bt mg)(KT:Kt K)(C:Ct K mg)(R:Rt K mg)(ET:Et K mg)(c_less:CanM P w K mg base k "less" ["one", "two"] fN):CanM P w K mg base (k+1) "merged" ["one", "two"] qB:=
  aO F kH fun cdv A outer s H E G W WR=>(aG (qU (i:=2) kH.nd rfl (Or.inl rfl) (cN aF))
 (aG (bF (i:=3) kH.nd rfl (Or.inl rfl) (aU aJ fun _=>.int _))
 (aG (mO W.own W.calm (iS (aB 0 (pv 0))) (eR (i:=4) kH.nd rfl (Or.inl rfl)) cA (aG (zAd W.own (PWd.pt (zFF (tst pJ zDV (aB 3 (pv 3)) (aW aT eO rfl B.len QD (aA (aB 1 (pv 1)) aF aD)) (bH _)) (xS (zAK (aK W c_less rfl (aA (aS aL bR (aB 1 (pv 1)) (aB 3 (pv 3)) (fun _ _=>rfl)) (aA (aB 4 (pv 4)) aF aD) aR)))))) (aG (zAO (i:=2) (pv 2) (aS aL bR (aB 1 (pv 1)) (aB 3 (pv 3)) (fun _ _=>rfl)))
 (aM (zFh (i:=3) kH.nd rfl (Or.inl rfl) (aU aJ fun _=>.int _) zEv zU sZ))))
 (aG (jD (PWd.pt (zFF (tst pJ zDV (aB 3 (pv 3)) (aW aT eO rfl B.len QD (aA (aB 1 (pv 1)) aF aD)) (bH _)) (xS (tst (eqA W.u) sJ (aS aL bR (aB 1 (pv 1)) (aB 3 (pv 3)) (fun _ _=>rfl)) (aB 4 (pv 4)) (bH _))))) (aM (zFh (i:=3) kH.nd rfl (Or.inl rfl) (aU aJ fun _=>.int _) zEv zU sZ)) bO)
 (aM (zAO (i:=2) (pv 2) (aB 4 (pv 4)))))))
 (aG (zIb (i:=2) (pv 2) (kR (aB 1 (pv 1)) (kY (aB 3 (pv 3))) uP))
 (aM (gM 2 (pv 2)))))))
theorem yY(F:Fn K mg "row_joints" mT ["claims"] f fd)(B:Bt mg)(KT:Kt K)(C:Ct K mg)(R:Rt K mg)(ET:Et K mg)(c_whole:CanM P w K mg base k "whole" ["number"] bN):CanM P w K mg base (k+1) "row_joints" ["claims"] fJ:=
  aO F fS fun cdv A outer s H E G W WR=>(aG (bF (i:=1) fS.nd rfl (Or.inl rfl) (aU aJ fun _=>.int _))
 (aG (qU (i:=2) fS.nd rfl (Or.inl rfl) (cN (aA (bJ rfl C.NOUGHT) aF aD)))
 (aG (mO W.own W.calm (iS (aB 0 (pv 0))) (eR (i:=3) fS.nd rfl (Or.inl rfl)) cA (aG (zFh (i:=1) fS.nd rfl (Or.inl rfl) (aB 3 (pv 3)) zEv zU sZ)
 (aM (zAO (i:=2) (pv 2) (aK W c_whole rfl (aA (aB 1 (pv 1)) aF aD))))))
 (aM (gM 2 (pv 2))))))
theorem pM(F:Fn K mg "without_doubles" gK ["joints"] f fd)(B:Bt mg)(KT:Kt K)(C:Ct K mg)(R:Rt K mg)(ET:Et K mg)(c_less:CanM P w K mg base k "less" ["one", "two"] fN):CanM P w K mg base (k+1) "without_doubles" ["joints"] dA:=
  aO F fP fun cdv A outer s H E G W WR=>(aG (qU (i:=1) fP.nd rfl (Or.inl rfl) (kR (aB 0 (pv 0)) uP (kY (aU aJ fun _=>.int _))))
 (aG (mO W.own W.calm (iS (aB 0 (pv 0))) (eR (i:=2) fP.nd rfl (Or.inl rfl)) cA (aM (jD (PTd.frz (zAK (aK W c_less rfl (aA (aS aL bR (aB 1 (pv 1)) (pO (aU aJ fun _=>.int _)) (fun _ _=>rfl)) (aA (aB 2 (pv 2)) aF aD) aR)))) (aM (zAO (i:=1) (pv 1) (aB 2 (pv 2)))) bO)))
 (aM (gM 1 (pv 1)))))
theorem zDn(F:Fn K mg "_law_plus" rH ["one", "two"] f fd)(B:Bt mg)(KT:Kt K)(C:Ct K mg)(R:Rt K mg)(ET:Et K mg)(c_law_made:CanM P w K mg base k "_law_made" ["top", "bottom"] eH):CanM P w K mg base (k+1) "_law_plus" ["one", "two"] kE:=
 aO F zDv fun cdv A outer s H E G W WR=>(aM (cH (aK W c_law_made rfl (aA (aY dU lO (aY cC iH (aS aL bR (aB 0 (pv 0)) (aU aJ fun _=>.int _) (fun _ _=>rfl)) (aS aL bR (aB 1 (pv 1)) (aU aJ fun _=>.int _) (fun _ _=>rfl))) (aY cC iH (aS aL bR (aB 1 (pv 1)) (aU aJ fun _=>.int _) (fun _ _=>rfl)) (aS aL bR (aB 0 (pv 0)) (aU aJ fun _=>.int _) (fun _ _=>rfl)))) (aA (aY cC iH (aS aL bR (aB 0 (pv 0)) (aU aJ fun _=>.int _) (fun _ _=>rfl)) (aS aL bR (aB 1 (pv 1)) (aU aJ fun _=>.int _) (fun _ _=>rfl))) aF bK) bK))))
theorem zBW(F:Fn K mg "_law_times" nZ ["one", "two"] f fd)(B:Bt mg)(KT:Kt K)(C:Ct K mg)(R:Rt K mg)(ET:Et K mg)(c_law_made:CanM P w K mg base k "_law_made" ["top", "bottom"] eH):CanM P w K mg base (k+1) "_law_times" ["one", "two"] iR:=
 aO F zBb fun cdv A outer s H E G W WR=>(aM (cH (aK W c_law_made rfl (aA (aY cC iH (aS aL bR (aB 0 (pv 0)) (aU aJ fun _=>.int _) (fun _ _=>rfl)) (aS aL bR (aB 1 (pv 1)) (aU aJ fun _=>.int _) (fun _ _=>rfl))) (aA (aY cC iH (aS aL bR (aB 0 (pv 0)) (aU aJ fun _=>.int _) (fun _ _=>rfl)) (aS aL bR (aB 1 (pv 1)) (aU aJ fun _=>.int _) (fun _ _=>rfl))) aF bK) bK))))
theorem zMZ(F:Fn K mg "plus" zHC ["one", "two"] f fd)(B:Bt mg)(KT:Kt K)(C:Ct K mg)(R:Rt K mg)(ET:Et K mg)(c_made:CanM P w K mg base k "made" ["top", "bottom"] iT):CanM P w K mg base (k+1) "plus" ["one", "two"] lK:=
 aO F zMP fun cdv A outer s H E G W WR=>(aM (cH (aK W c_made rfl (aA (aY dU lO (aY cC iH (aS aL bR (aB 0 (pv 0)) (aU aJ fun _=>.int _) (fun _ _=>rfl)) (aS aL bR (aB 1 (pv 1)) (aU aJ fun _=>.int _) (fun _ _=>rfl))) (aY cC iH (aS aL bR (aB 1 (pv 1)) (aU aJ fun _=>.int _) (fun _ _=>rfl)) (aS aL bR (aB 0 (pv 0)) (aU aJ fun _=>.int _) (fun _ _=>rfl)))) (aA (aY cC iH (aS aL bR (aB 0 (pv 0)) (aU aJ fun _=>.int _) (fun _ _=>rfl)) (aS aL bR (aB 1 (pv 1)) (aU aJ fun _=>.int _) (fun _ _=>rfl))) aF bK) bK))))
theorem zKt(F:Fn K mg "minus" zCA ["one", "two"] f fd)(B:Bt mg)(KT:Kt K)(C:Ct K mg)(R:Rt K mg)(ET:Et K mg)(c_made:CanM P w K mg base k "made" ["top", "bottom"] iT):CanM P w K mg base (k+1) "minus" ["one", "two"] cO:=
 aO F zJp fun cdv A outer s H E G W WR=>(aM (cH (aK W c_made rfl (aA (aY vO zDc (aY cC iH (aS aL bR (aB 0 (pv 0)) (aU aJ fun _=>.int _) (fun _ _=>rfl)) (aS aL bR (aB 1 (pv 1)) (aU aJ fun _=>.int _) (fun _ _=>rfl))) (aY cC iH (aS aL bR (aB 1 (pv 1)) (aU aJ fun _=>.int _) (fun _ _=>rfl)) (aS aL bR (aB 0 (pv 0)) (aU aJ fun _=>.int _) (fun _ _=>rfl)))) (aA (aY cC iH (aS aL bR (aB 0 (pv 0)) (aU aJ fun _=>.int _) (fun _ _=>rfl)) (aS aL bR (aB 1 (pv 1)) (aU aJ fun _=>.int _) (fun _ _=>rfl))) aF bK) bK))))
theorem zJn(F:Fn K mg "times" zDp ["one", "two"] f fd)(B:Bt mg)(KT:Kt K)(C:Ct K mg)(R:Rt K mg)(ET:Et K mg)(c_made:CanM P w K mg base k "made" ["top", "bottom"] iT):CanM P w K mg base (k+1) "times" ["one", "two"] dJ:=
 aO F zJd fun cdv A outer s H E G W WR=>(aM (cH (aK W c_made rfl (aA (aY cC iH (aS aL bR (aB 0 (pv 0)) (aU aJ fun _=>.int _) (fun _ _=>rfl)) (aS aL bR (aB 1 (pv 1)) (aU aJ fun _=>.int _) (fun _ _=>rfl))) (aA (aY cC iH (aS aL bR (aB 0 (pv 0)) (aU aJ fun _=>.int _) (fun _ _=>rfl)) (aS aL bR (aB 1 (pv 1)) (aU aJ fun _=>.int _) (fun _ _=>rfl))) aF bK) bK))))
theorem zMD(F:Fn K mg "over" zFZ ["one", "two"] f fd)(B:Bt mg)(KT:Kt K)(C:Ct K mg)(R:Rt K mg)(ET:Et K mg)(c_made:CanM P w K mg base k "made" ["top", "bottom"] iT):CanM P w K mg base (k+1) "over" ["one", "two"] pI:=
 aO F zMQ fun cdv A outer s H E G W WR=>(aM (cH (aK W c_made rfl (aA (aY cC iH (aS aL bR (aB 0 (pv 0)) (aU aJ fun _=>.int _) (fun _ _=>rfl)) (aS aL bR (aB 1 (pv 1)) (aU aJ fun _=>.int _) (fun _ _=>rfl))) (aA (aY cC iH (aS aL bR (aB 0 (pv 0)) (aU aJ fun _=>.int _) (fun _ _=>rfl)) (aS aL bR (aB 1 (pv 1)) (aU aJ fun _=>.int _) (fun _ _=>rfl))) aF bK) bK))))
theorem rK(F:Fn K mg "refuse_outside" iB ["amount", "most"] f fd)(B:Bt mg)(KT:Kt K)(C:Ct K mg)(R:Rt K mg)(ET:Et K mg)(c_is_outside:CanM P w K mg base k "is_outside" ["amount", "most"] dZ):CanM P w K mg base (k+1) "refuse_outside" ["amount", "most"] aZ:=
 aO F rE fun cdv A outer s H E G W WR=>(aM (jD (zAK (aK W c_is_outside rfl (aA (aB 0 (pv 0)) (aA (aB 1 (pv 1)) aF aD) aD))) (aM (gJ W WR R.Outside rfl (aA (aU cE fun _=>.str _) aF bL))) bO))
theorem zCo(F:Fn K mg "levels_of" kW ["weights", "claims"] f fd)(B:Bt mg)(KT:Kt K)(C:Ct K mg)(R:Rt K mg)(ET:Et K mg)(c_made:CanM P w K mg base k "made" ["top", "bottom"] iT):CanM P w K mg base (k+1) "levels_of" ["weights", "claims"] eG:=
 aO F zAW fun cdv A outer s H E G W WR=>(aM (dX (tT (N:=["weights", "claims"]) W (by decide +kernel) rfl (sc:=aI kW) rfl rfl (by decide +kernel) (zIy rfl B.zip (aA (aB 1 (pv 1)) (aA (aB 0 (pv 0)) aF aD) aD)) (fun C2 s2 H2 fp2 G W=>(aK W c_made rfl (aA (aB 2 (pv 2)) (aA (aB 3 (pv 3)) aF aD) aD))))))
theorem zCd(F:Fn K mg "row_dealt" oD ["claims", "catch"] f fd)(B:Bt mg)(KT:Kt K)(C:Ct K mg)(R:Rt K mg)(ET:Et K mg)(c_lesser:CanM P w K mg base k "lesser" ["one", "two"] lB)(c_minus:CanM P w K mg base k "minus" ["one", "two"] cO)(c_whole:CanM P w K mg base k "whole" ["number"] bN):CanM P w K mg base (k+1) "row_dealt" ["claims", "catch"] gF:=
  aO F fL fun cdv A outer s H E G W WR=>(aG (bF (i:=2) fL.nd rfl (Or.inl rfl) (aB 1 (pv 1)))
 (aG (qU (i:=3) fL.nd rfl (Or.inl rfl) (cN aF))
 (aG (mO W.own W.calm (iS (aB 0 (pv 0))) (eR (i:=4) fL.nd rfl (Or.inl rfl)) cA (aG (bF (i:=5) fL.nd rfl (Or.inl rfl) (aK W c_lesser rfl (aA (aB 2 (pv 2)) (aA (aK W c_whole rfl (aA (aB 4 (pv 4)) aF aD)) aF aN) aD)))
 (aG (zAO (i:=3) (pv 3) (aB 5 (pv 5)))
 (aM (bF (i:=2) fL.nd rfl (Or.inl rfl) (aK W c_minus rfl (aA (aB 2 (pv 2)) (aA (aB 5 (pv 5)) aF aD) aD)))))))
 (aM (gM 3 (pv 3))))))
theorem zAC(F:Fn K mg "even_dealt" mC ["weights", "claims", "catch"] f fd)(B:Bt mg)(KT:Kt K)(C:Ct K mg)(R:Rt K mg)(ET:Et K mg)(c_ranked:CanR P w K mg base k jF)(c_levels_of:CanM P w K mg base k "levels_of" ["weights", "claims"] eG)(c_over:CanM P w K mg base k "over" ["one", "two"] pI)(c_lesser:CanM P w K mg base k "lesser" ["one", "two"] lB)(c_minus:CanM P w K mg base k "minus" ["one", "two"] cO)(c_times:CanM P w K mg base k "times" ["one", "two"] dJ)(c_whole:CanM P w K mg base k "whole" ["number"] bN):CanM P w K mg base (k+1) "even_dealt" ["weights", "claims", "catch"] dF:=
  aO F cV fun cdv A outer s H E G W WR=>(aG (bF (i:=3) cV.nd rfl (Or.inl rfl) (aB 2 (pv 2)))
 (aG (bF (i:=4) cV.nd rfl (Or.inl rfl) (aW (jL W.calm) sD rfl B.sum hZ (aA (aB 0 (pv 0)) aF aD)))
 (aG (qU (i:=5) cV.nd rfl (Or.inl rfl) (zDP (cN (aA (bJ rfl C.NOUGHT) aF aD)) (aW aT eO rfl B.len QD (aA (aB 1 (pv 1)) aF aD))))
 (zIk W c_ranked zPj zLp rfl (aA (PEf.d (bI W c_levels_of rfl (aA (aB 0 (pv 0)) (aA (aB 1 (pv 1)) aF aD) aD))) aF aN) (eR (i:=6) cV.nd rfl (Or.inl rfl)) cA (aG (bF (i:=7) cV.nd rfl (Or.inl rfl) (aK W c_over rfl (aA (aK W c_times rfl (aA (aB 3 (pv 3)) (aA (aK W c_whole rfl (aA (aS aL bR (aB 0 (pv 0)) (aB 6 (pv 6)) (fun _ _=>rfl)) aF aR)) aF aN) aD)) (aA (aK W c_whole rfl (aA (aB 4 (pv 4)) aF aD)) aF aN) aN)))
 (aG (zQs (i:=5) (pv 5) (aB 6 (pv 6)) (aK W c_lesser rfl (aA (aB 7 (pv 7)) (aA (aK W c_whole rfl (aA (aS aL bR (aB 1 (pv 1)) (aB 6 (pv 6)) (fun _ _=>rfl)) aF aR)) aF aN) aD)))
 (aG (bF (i:=3) cV.nd rfl (Or.inl rfl) (PEd.frz (aK W c_minus rfl (aA (aB 3 (pv 3)) (aA (aS aL bR (aB 5 (pv 5)) (aB 6 (pv 6)) (fun _ _=>rfl)) aF aR) aD))))
 (aM (zFh (i:=4) cV.nd rfl (Or.inl rfl) (aS aL bR (aB 0 (pv 0)) (aB 6 (pv 6)) (fun _ _=>rfl)) zLu zHL zEu))))) (aM (gM 5 (pv 5)))))))
theorem zAs(F:Fn K mg "part_dealt" jK ["claims", "catch"] f fd)(B:Bt mg)(KT:Kt K)(C:Ct K mg)(R:Rt K mg)(ET:Et K mg)(c_over:CanM P w K mg base k "over" ["one", "two"] pI)(c_whole:CanM P w K mg base k "whole" ["number"] bN)(c_times:CanM P w K mg base k "times" ["one", "two"] dJ):CanM P w K mg base (k+1) "part_dealt" ["claims", "catch"] fI:=
  aO F iI fun cdv A outer s H E G W WR=>(aG (bF (i:=2) iI.nd rfl (Or.inl rfl) (aW (jL W.calm) sD rfl B.sum hZ (aA (aB 0 (pv 0)) aF aD)))
 (aG (jD (tst (eqA W.u) sJ (aB 2 (pv 2)) (aU aJ fun _=>.int _) (bH _)) (aM (dX (zDP (cN (aA (bJ rfl C.NOUGHT) aF aD)) (aW aT eO rfl B.len QD (aA (aB 0 (pv 0)) aF aD))))) bO)
 (aG (bF (i:=3) iI.nd rfl (Or.inr rfl) (aK W c_over rfl (aA (aB 1 (pv 1)) (aA (aK W c_whole rfl (aA (aB 2 (pv 2)) aF aD)) aF aN) aD)))
 (aM (dX (eX W iI.nd rfl (sc:=aI jK) rfl rfl (by decide +kernel) (iS (aB 0 (pv 0))) (fun C2 s2 H2 fp2 G W=>⟨jI,(aK W c_times rfl (aA (aB 3 (pv 3)) (aA (aK W c_whole rfl (aA (aB 4 (pv 4)) aF aD)) aF aN) aD))⟩)))))))
theorem zAo(F:Fn K mg "is_between" lY ["ahead", "point", "later"] f fd)(B:Bt mg)(KT:Kt K)(C:Ct K mg)(R:Rt K mg)(ET:Et K mg)(c_minus:CanM P w K mg base k "minus" ["one", "two"] cO)(c_times:CanM P w K mg base k "times" ["one", "two"] dJ):CanM P w K mg base (k+1) "is_between" ["ahead", "point", "later"] hG:=
  aO F fU fun cdv A outer s H E G W WR=>(aG (bF (i:=3) fU.nd rfl (Or.inl rfl) (aK W c_minus rfl (aA (aS aL bR (aB 1 (pv 1)) (bJ rfl C.UP) (fun _ _=>rfl)) (aA (aS aL bR (aB 0 (pv 0)) (bJ rfl C.UP) (fun _ _=>rfl)) aF aR) aR)))
 (aG (bF (i:=4) fU.nd rfl (Or.inl rfl) (aK W c_minus rfl (aA (aS aL bR (aB 2 (pv 2)) (bJ rfl C.UP) (fun _ _=>rfl)) (aA (aS aL bR (aB 1 (pv 1)) (bJ rfl C.UP) (fun _ _=>rfl)) aF aR) aR)))
 (aG (bF (i:=5) fU.nd rfl (Or.inl rfl) (aK W c_minus rfl (aA (aS aL bR (aB 1 (pv 1)) (bJ rfl C.ACROSS) (fun _ _=>rfl)) (aA (aS aL bR (aB 0 (pv 0)) (bJ rfl C.ACROSS) (fun _ _=>rfl)) aF aR) aR)))
 (aG (bF (i:=6) fU.nd rfl (Or.inl rfl) (aK W c_minus rfl (aA (aS aL bR (aB 2 (pv 2)) (bJ rfl C.ACROSS) (fun _ _=>rfl)) (aA (aS aL bR (aB 1 (pv 1)) (bJ rfl C.ACROSS) (fun _ _=>rfl)) aF aR) aR)))
 (aM (cH (zBE (eqA W.u) sJ (aK W c_times rfl (aA (aB 3 (pv 3)) (aA (aB 6 (pv 6)) aF aD) aD)) (aK W c_times rfl (aA (aB 4 (pv 4)) (aA (aB 5 (pv 5)) aF aD) aD)) (bH _))))))))
theorem zOt(F:Fn K mg "met" zMN ["line", "axis", "amount"] f fd)(B:Bt mg)(KT:Kt K)(C:Ct K mg)(R:Rt K mg)(ET:Et K mg)(c_first_reaching:CanM P w K mg base k "first_reaching" ["line", "axis", "amount"] bT)(c_over:CanM P w K mg base k "over" ["one", "two"] pI)(c_plus:CanM P w K mg base k "plus" ["one", "two"] lK)(c_minus:CanM P w K mg base k "minus" ["one", "two"] cO)(c_times:CanM P w K mg base k "times" ["one", "two"] dJ):CanM P w K mg base (k+1) "met" ["line", "axis", "amount"] oT:=
  aO F xH fun cdv A outer s H E G W WR=>(aG (bF (i:=3) xH.nd rfl (Or.inl rfl) (aY vO zDc (aU aJ fun _=>.int _) (aB 1 (pv 1))))
 (aG (bF (i:=4) xH.nd rfl (Or.inl rfl) (aK W c_first_reaching rfl (aA (aB 0 (pv 0)) (aA (aB 1 (pv 1)) (aA (aB 2 (pv 2)) aF aD) aD) aD)))
 (aG (bF (i:=5) xH.nd rfl (Or.inl rfl) (aS aL bR (aB 0 (pv 0)) (aB 4 (pv 4)) (fun _ _=>rfl)))
 (aG (jD (tst (eqA W.u) sJ (aS aL bR (aB 5 (pv 5)) (aB 1 (pv 1)) (fun _ _=>rfl)) (aB 2 (pv 2)) (bH _)) (aM (cH (aS aL bR (aB 5 (pv 5)) (aB 3 (pv 3)) (fun _ _=>rfl)))) bO)
 (aG (bF (i:=6) xH.nd rfl (Or.inl rfl) (aS aL bR (aB 0 (pv 0)) (aY vO zDc (aB 4 (pv 4)) (aU aJ fun _=>.int _)) (fun _ _=>rfl)))
 (aG (bF (i:=7) xH.nd rfl (Or.inl rfl) (aK W c_over rfl (aA (aK W c_minus rfl (aA (aB 2 (pv 2)) (aA (aS aL bR (aB 6 (pv 6)) (aB 1 (pv 1)) (fun _ _=>rfl)) aF aR) aD)) (aA (aK W c_minus rfl (aA (aS aL bR (aB 5 (pv 5)) (aB 1 (pv 1)) (fun _ _=>rfl)) (aA (aS aL bR (aB 6 (pv 6)) (aB 1 (pv 1)) (fun _ _=>rfl)) aF aR) aR)) aF aN) aN)))
 (aM (cH (aK W c_plus rfl (aA (aS aL bR (aB 6 (pv 6)) (aB 3 (pv 3)) (fun _ _=>rfl)) (aA (aK W c_times rfl (aA (aB 7 (pv 7)) (aA (aK W c_minus rfl (aA (aS aL bR (aB 5 (pv 5)) (aB 3 (pv 3)) (fun _ _=>rfl)) (aA (aS aL bR (aB 6 (pv 6)) (aB 3 (pv 3)) (fun _ _=>rfl)) aF aR) aR)) aF aN) aD)) aF aN) aR))))))))))
theorem wX(F:Fn K mg "even_joints" kN ["weights", "claims"] f fd)(B:Bt mg)(KT:Kt K)(C:Ct K mg)(R:Rt K mg)(ET:Et K mg)(c_levels_of:CanM P w K mg base k "levels_of" ["weights", "claims"] eG)(c_ranked:CanR P w K mg base k jF)(c_plus:CanM P w K mg base k "plus" ["one", "two"] lK)(c_whole:CanM P w K mg base k "whole" ["number"] bN)(c_times:CanM P w K mg base k "times" ["one", "two"] dJ):CanM P w K mg base (k+1) "even_joints" ["weights", "claims"] dG:=
  aO F cI fun cdv A outer s H E G W WR=>(aG (bF (i:=2) cI.nd rfl (Or.inl rfl) (aU aJ fun _=>.int _))
 (aG (bF (i:=3) cI.nd rfl (Or.inl rfl) (aW (jL W.calm) sD rfl B.sum hZ (aA (aB 0 (pv 0)) aF aD)))
 (aG (bF (i:=4) cI.nd rfl (Or.inl rfl) (PEf.d (bI W c_levels_of rfl (aA (aB 0 (pv 0)) (aA (aB 1 (pv 1)) aF aD) aD))))
 (aG (qU (i:=5) cI.nd rfl (Or.inl rfl) (cN (aA (bJ rfl C.NOUGHT) aF aD)))
 (zIk W c_ranked zPj zLp rfl (aA (aB 4 (pv 4)) aF aD) (eR (i:=6) cI.nd rfl (Or.inl rfl)) cA (aG (zAO (i:=5) (pv 5) (aK W c_plus rfl (aA (aK W c_whole rfl (aA (aB 2 (pv 2)) aF aD)) (aA (aK W c_times rfl (aA (aS aL bR (aB 4 (pv 4)) (aB 6 (pv 6)) (fun _ _=>rfl)) (aA (aK W c_whole rfl (aA (aB 3 (pv 3)) aF aD)) aF aN) aR)) aF aN) aN)))
 (aG (zFh (i:=2) cI.nd rfl (Or.inl rfl) (aS aL bR (aB 1 (pv 1)) (aB 6 (pv 6)) (fun _ _=>rfl)) zEv zU sZ)
 (aM (zFh (i:=3) cI.nd rfl (Or.inl rfl) (aS aL bR (aB 0 (pv 0)) (aB 6 (pv 6)) (fun _ _=>rfl)) zLu zHL zEu)))) (aM (gM 5 (pv 5))))))))
theorem zDx(F:Fn K mg "mirrored" mU ["joints", "most"] f fd)(B:Bt mg)(KT:Kt K)(C:Ct K mg)(R:Rt K mg)(ET:Et K mg)(c_minus:CanM P w K mg base k "minus" ["one", "two"] cO):CanM P w K mg base (k+1) "mirrored" ["joints", "most"] gE:=
 aO F vG fun cdv A outer s H E G W WR=>(aM (dX (eX W vG.nd rfl (sc:=aI mU) rfl rfl (by decide +kernel) (zPG rfl B.reversed (aB 0 (pv 0))) (fun C2 s2 H2 fp2 G W=>⟨jI,(aK W c_minus rfl (aA (aB 1 (pv 1)) (aA (aB 2 (pv 2)) aF aD) aD))⟩))))
theorem yD(F:Fn K mg "half_dealt" jP ["claims", "catch"] f fd)(B:Bt mg)(KT:Kt K)(C:Ct K mg)(R:Rt K mg)(ET:Et K mg)(c_times:CanM P w K mg base k "times" ["one", "two"] dJ)(c_even_dealt:CanM P w K mg base k "even_dealt" ["weights", "claims", "catch"] dF)(c_plus:CanM P w K mg base k "plus" ["one", "two"] lK):CanM P w K mg base (k+1) "half_dealt" ["claims", "catch"] fF:=
  aO F lD fun cdv A outer s H E G W WR=>(aG (bF (i:=2) lD.nd rfl (Or.inl rfl) (PEf.d (zDP (cN (aA (aU aJ fun _=>.int _) aF bL)) (aW aT eO rfl B.len QD (aA (aB 0 (pv 0)) aF aD)))))
 (aM (dX (eX W lD.nd rfl (sc:=aI jP) rfl rfl (by decide +kernel) (iS (PEf.d (bI W c_even_dealt rfl (aA (aB 2 (pv 2)) (aA (aB 0 (pv 0)) (aA (aK W c_plus rfl (aA (aB 1 (pv 1)) (aA (aB 1 (pv 1)) aF aD) aD)) aF aN) aD) aD)))) (fun C2 s2 H2 fp2 G W=>⟨jI,(aK W c_times rfl (aA (aB 3 (pv 3)) (aA (bJ rfl C.HALF) aF aD) aD))⟩)))))
theorem zFi(F:Fn K mg "line_of" vN ["points"] f fd)(B:Bt mg)(KT:Kt K)(C:Ct K mg)(R:Rt K mg)(ET:Et K mg)(c_refuse_bad:CanM P w K mg base k "refuse_bad" ["points"] gZ)(c_is_between:CanM P w K mg base k "is_between" ["ahead", "point", "later"] hG):CanM P w K mg base (k+1) "line_of" ["points"] eS:=
  aO F rO fun cdv A outer s H E G W WR=>(aG (mI (aK W c_refuse_bad rfl (aA (aB 0 (pv 0)) aF aD)))
 (aG (qU (i:=1) rO.nd rfl (Or.inl rfl) (cN aF))
 (aG (mO W.own W.calm (iS (aB 0 (pv 0))) (eR (i:=2) rO.nd rfl (Or.inl rfl)) cA (aG (jD (PTd.frz (PWd.pt (zFF (tst zNp zQn (aW aT eO rfl B.len QD (aA (aB 1 (pv 1)) aF aD)) (aU aJ fun _=>.int _) (bH _)) (xS (zAK (aK W c_is_between rfl (aA (aS aL bR (aB 1 (pv 1)) (pO (aU aJ fun _=>.int _)) (fun _ _=>rfl)) (aA (aS aL bR (aB 1 (pv 1)) (pO (aU aJ fun _=>.int _)) (fun _ _=>rfl)) (aA (aB 2 (pv 2)) aF aD) aR) aR))))))) (aM (zQD (i:=1) (pv 1))) bO)
 (aM (zAO (i:=1) (pv 1) (aB 2 (pv 2))))))
 (aM (cH (oX kZ zHX rfl B.tuple boot_tuple (aA (aB 1 (pv 1)) aF aD)))))))
theorem zKm(F:Fn K mg "value" zCW ["line", "x"] f fd)(B:Bt mg)(KT:Kt K)(C:Ct K mg)(R:Rt K mg)(ET:Et K mg)(c_refuse_outside:CanM P w K mg base k "refuse_outside" ["amount", "most"] aZ)(c_met:CanM P w K mg base k "met" ["line", "axis", "amount"] oT)(c_length:CanM P w K mg base k "length" ["line"] kO):CanM P w K mg base (k+1) "value" ["line", "x"] qX:=
  aO F zJW fun cdv A outer s H E G W WR=>(aG (mI (aK W c_refuse_outside rfl (aA (aB 1 (pv 1)) (aA (aK W c_length rfl (aA (aB 0 (pv 0)) aF aD)) aF aN) aD)))
 (aM (cH (aK W c_met rfl (aA (aB 0 (pv 0)) (aA (bJ rfl C.ACROSS) (aA (aB 1 (pv 1)) aF aD) aD) aD)))))
theorem zFQ(F:Fn K mg "stretch" uB ["line", "y"] f fd)(B:Bt mg)(KT:Kt K)(C:Ct K mg)(R:Rt K mg)(ET:Et K mg)(c_refuse_outside:CanM P w K mg base k "refuse_outside" ["amount", "most"] aZ)(c_met:CanM P w K mg base k "met" ["line", "axis", "amount"] oT)(c_height:CanM P w K mg base k "height" ["line"] kQ)(c_first_reaching:CanM P w K mg base k "first_reaching" ["line", "axis", "amount"] bT):CanM P w K mg base (k+1) "stretch" ["line", "y"] kJ:=
  aO F qR fun cdv A outer s H E G W WR=>(aG (mI (aK W c_refuse_outside rfl (aA (aB 1 (pv 1)) (aA (aK W c_height rfl (aA (aB 0 (pv 0)) aF aD)) aF aN) aD)))
 (aG (bF (i:=2) qR.nd rfl (Or.inl rfl) (aK W c_met rfl (aA (aB 0 (pv 0)) (aA (bJ rfl C.UP) (aA (aB 1 (pv 1)) aF aD) aD) aD)))
 (aG (bF (i:=3) qR.nd rfl (Or.inl rfl) (aS aL bR (aB 0 (pv 0)) (aW (zGi W.calm) zPz rfl B.min boot_min (aA (aY dU lO (aK W c_first_reaching rfl (aA (aB 0 (pv 0)) (aA (bJ rfl C.UP) (aA (aB 1 (pv 1)) aF aD) aD) aD)) (aU aJ fun _=>.int _)) (aA (aY vO zDc (aW aT eO rfl B.len QD (aA (aB 0 (pv 0)) aF aD)) (aU aJ fun _=>.int _)) aF bK) bK)) (fun _ _=>rfl)))
 (aG (jD (tst (eqA W.u) sJ (aS aL bR (aB 3 (pv 3)) (bJ rfl C.UP) (fun _ _=>rfl)) (aB 1 (pv 1)) (bH _)) (aM (cH (eN (aA (aB 2 (pv 2)) (aA (aS aL bR (aB 3 (pv 3)) (bJ rfl C.ACROSS) (fun _ _=>rfl)) aF aR) aD)))) bO)
 (aM (cH (eN (aA (aB 2 (pv 2)) (aA (aB 2 (pv 2)) aF aD) aD))))))))
theorem zHV(F:Fn K mg "behind" pN ["one", "two"] f fd)(B:Bt mg)(KT:Kt K)(C:Ct K mg)(R:Rt K mg)(ET:Et K mg)(c_merged:CanM P w K mg base k "merged" ["one", "two"] qB)(c_line_of:CanM P w K mg base k "line_of" ["points"] eS)(c_length:CanM P w K mg base k "length" ["line"] kO)(c_height:CanM P w K mg base k "height" ["line"] kQ)(c_met:CanM P w K mg base k "met" ["line", "axis", "amount"] oT)(c_places:CanM P w K mg base k "places" ["line"] nL)(c_value:CanM P w K mg base k "value" ["line", "x"] qX):CanM P w K mg base (k+1) "behind" ["one", "two"] gN:=
  aO F lR fun cdv A outer s H E G W WR=>(aG (jD (tst (neA W.u) zNC (aK W c_length rfl (aA (aB 0 (pv 0)) aF aD)) (aK W c_height rfl (aA (aB 1 (pv 1)) aF aD)) (bH _)) (aM (gJ W WR R.Unlike rfl (aA (aU cE fun _=>.str _) aF bL))) bO)
 (aG (zKR (i:=2) lR.nd rfl (Or.inl rfl) (PCf.d (zFa W lR.nd rfl (sc:=aI pN) rfl rfl (by decide +kernel) (iS (PEf.d (bI W c_places rfl (aA (aB 0 (pv 0)) aF aD)))) (fun C2 s2 H2 fp2 G W=>⟨jI,(aK W c_met rfl (aA (aB 1 (pv 1)) (aA (bJ rfl C.UP) (aA (aB 4 (pv 4)) aF aD) aD) aD))⟩))) rfl)
 (aG (bF (i:=3) lR.nd rfl (Or.inl rfl) (PEf.d (bI W c_merged rfl (aA (PEf.d (bI W c_places rfl (aA (aB 1 (pv 1)) aF aD))) (aA (aB 2 (pv 2)) aF aD) aN))))
 (aM (cH (aK W c_line_of rfl (aA (PEf.d (eX W lR.nd rfl (sc:=aI pN) rfl rfl (by decide +kernel) (iS (aB 3 (pv 3))) (fun C2 s2 H2 fp2 G W=>⟨jI,(eN (aA (aB 4 (pv 4)) (aA (aK W c_value rfl (aA (aB 0 (pv 0)) (aA (aK W c_value rfl (aA (aB 1 (pv 1)) (aA (aB 4 (pv 4)) aF aD) aD)) aF aN) aD)) aF aN) aD))⟩))) aF)))))))
theorem zFJ(F:Fn K mg "line_at" pE ["joints", "dealings", "spot"] f fd)(B:Bt mg)(KT:Kt K)(C:Ct K mg)(R:Rt K mg)(ET:Et K mg)(c_line_of:CanM P w K mg base k "line_of" ["points"] eS):CanM P w K mg base (k+1) "line_at" ["joints", "dealings", "spot"] lX:=
 aO F zFT fun cdv A outer s H E G W WR=>(aM (cH (aK W c_line_of rfl (aA (PEf.d (tT (N:=["joints", "dealings", "spot"]) W (by decide +kernel) rfl (sc:=aI pE) rfl rfl (by decide +kernel) (zIy rfl B.zip (aA (aB 0 (pv 0)) (aA (aB 1 (pv 1)) aF aD) aD)) (fun C2 s2 H2 fp2 G W=>(eN (aA (aB 3 (pv 3)) (aA (aS aL bR (aB 4 (pv 4)) (aB 2 (pv 2)) (fun _ _=>rfl)) aF aR) aD))))) aF))))
theorem zDE(F:Fn K mg "straight" qN ["claim"] f fd)(B:Bt mg)(KT:Kt K)(C:Ct K mg)(R:Rt K mg)(ET:Et K mg)(c_line_of:CanM P w K mg base k "line_of" ["points"] eS)(c_whole:CanM P w K mg base k "whole" ["number"] bN):CanM P w K mg base (k+1) "straight" ["claim"] gD:=
  aO F tR fun cdv A outer s H E G W WR=>(aG (bF (i:=1) tR.nd rfl (Or.inl rfl) (eN (aA (bJ rfl C.NOUGHT) (aA (bJ rfl C.NOUGHT) aF aD) aD)))
 (aG (jD (tst (eqA W.u) sJ (aB 0 (pv 0)) (aU aJ fun _=>.int _) (bH _)) (aM (cH (aK W c_line_of rfl (aA (PEf.d (cN (aA (aB 1 (pv 1)) aF aD))) aF zEK)))) bO)
 (aM (cH (aK W c_line_of rfl (aA (PEf.d (cN (aA (aB 1 (pv 1)) (aA (eN (aA (aK W c_whole rfl (aA (aB 0 (pv 0)) aF aD)) (aA (aK W c_whole rfl (aA (aB 0 (pv 0)) aF aD)) aF aN) aN)) aF mW) aD))) aF zEK))))))
theorem zCn{r:Mir}(F:Fn K mg "joints_of" iW ["way", "weights", "claims"] f fd)(B:Bt mg)(KT:Kt K)(C:Ct K mg)(R:Rt K mg)(ET:Et K mg)(c_whole:CanM P w K mg base k "whole" ["number"] bN)(c_mirrored:CanM P w K mg base k "mirrored" ["joints", "most"] gE)(c_row_joints:CanM P w K mg base k "row_joints" ["claims"] fJ)(c_even_joints:CanM P w K mg base k "even_joints" ["weights", "claims"] dG)(c_times:CanM P w K mg base k "times" ["one", "two"] dJ)(c_contrary_way:CanM P w K mg base k "contrary_way" ["way"] dQ)(c_joints_of:CanM P w K mg base k "joints_of" ["way", "weights", "claims"] r):CanM P w K mg base (k+1) "joints_of" ["way", "weights", "claims"] (cB r):=
  aO F gY fun cdv A outer s H E G W WR=>(aG (bF (i:=3) gY.nd rfl (Or.inl rfl) (aK W c_whole rfl (aA (aW (jL W.calm) sD rfl B.sum hZ (aA (aB 2 (pv 2)) aF aD)) aF aN)))
 (aG (jD (tst (eqA W.u) sJ (aB 0 (pv 0)) (aU cE fun _=>.str _) (bH _)) (aM (dX (bI W c_row_joints rfl (aA (aB 2 (pv 2)) aF aD)))) bO)
 (aG (jD (tst (eqA W.u) sJ (aB 0 (pv 0)) (aU cE fun _=>.str _) (bH _)) (aM (dX (bI W c_even_joints rfl (aA (aB 1 (pv 1)) (aA (aB 2 (pv 2)) aF aD) aD)))) bO)
 (aG (jD (tst (eqA W.u) sJ (aB 0 (pv 0)) (aU cE fun _=>.str _) (bH _)) (aM (dX (cN (aA (bJ rfl C.NOUGHT) (aA (aB 3 (pv 3)) aF aD) aD)))) bO)
 (aG (jD (tst (eqA W.u) sJ (aB 0 (pv 0)) (aU cE fun _=>.str _) (bH _)) (aG (zKR (i:=4) gY.nd rfl (Or.inl rfl) (PCf.d (zFa W gY.nd rfl (sc:=aI iW) rfl rfl (by decide +kernel) (iS (PEf.d (bI W c_even_joints rfl (aA (PEf.d (zDP (cN (aA (aU aJ fun _=>.int _) aF bL)) (aW aT eO rfl B.len QD (aA (aB 2 (pv 2)) aF aD)))) (aA (aB 2 (pv 2)) aF aD) bK)))) (fun C2 s2 H2 fp2 G W=>⟨jI,(aK W c_times rfl (aA (aB 5 (pv 5)) (aA (bJ rfl C.HALF) aF aD) aD))⟩))) rfl)
 (aM (dX (zHk (aB 4 (pv 4)) (PEf.d (bI W c_mirrored rfl (aA (aB 4 (pv 4)) (aA (aB 3 (pv 3)) aF aD) aD))))))) bO)
 (aM (dX (bI W c_mirrored rfl (aA (PEf.d (bI W c_joints_of rfl (aA (aK W c_contrary_way rfl (aA (aB 0 (pv 0)) aF aD)) (aA (aB 1 (pv 1)) (aA (aB 2 (pv 2)) aF aD) aD) aN))) (aA (aB 3 (pv 3)) aF aD) aN)))))))))
theorem rT(F:Fn K mg "joints_of" iW ["way", "weights", "claims"] f fd)(B:Bt mg)(KT:Kt K)(C:Ct K mg)(R:Rt K mg)(ET:Et K mg)(c_whole:CanM P w K mg base k "whole" ["number"] bN)(c_mirrored:CanM P w K mg base k "mirrored" ["joints", "most"] gE)(c_row_joints:CanM P w K mg base k "row_joints" ["claims"] fJ)(c_even_joints:CanM P w K mg base k "even_joints" ["weights", "claims"] dG)(c_times:CanM P w K mg base k "times" ["one", "two"] dJ)(c_contrary_way:CanM P w K mg base k "contrary_way" ["way"] dQ):∀ n:Nat,CanM P w K mg base (k+1+n) "joints_of" ["way", "weights", "claims"] (bM n)
 | 0=>aO F gY fun cdv A outer s H E G W WR=>zCL
 | n+1=>zCn (k:=k+1+n) F B KT C R ET (c_whole:=c_whole.mono (by omega)) (c_mirrored:=c_mirrored.mono (by omega)) (c_row_joints:=c_row_joints.mono (by omega)) (c_even_joints:=c_even_joints.mono (by omega)) (c_times:=c_times.mono (by omega)) (c_contrary_way:=c_contrary_way.mono (by omega)) (c_joints_of:=rT F B KT C R ET (c_whole:=c_whole) (c_mirrored:=c_mirrored) (c_row_joints:=c_row_joints) (c_even_joints:=c_even_joints) (c_times:=c_times) (c_contrary_way:=c_contrary_way) n)
theorem sI{r:Mir}(F:Fn K mg "rightly_dealt" eA ["way", "weights", "claims", "catch"] f fd)(B:Bt mg)(KT:Kt K)(C:Ct K mg)(R:Rt K mg)(ET:Et K mg)(c_whole:CanM P w K mg base k "whole" ["number"] bN)(c_row_dealt:CanM P w K mg base k "row_dealt" ["claims", "catch"] gF)(c_even_dealt:CanM P w K mg base k "even_dealt" ["weights", "claims", "catch"] dF)(c_part_dealt:CanM P w K mg base k "part_dealt" ["claims", "catch"] fI)(c_half_dealt:CanM P w K mg base k "half_dealt" ["claims", "catch"] fF)(c_minus:CanM P w K mg base k "minus" ["one", "two"] cO)(c_less:CanM P w K mg base k "less" ["one", "two"] fN)(c_plus:CanM P w K mg base k "plus" ["one", "two"] lK)(c_rightly_dealt:CanM P w K mg base k "rightly_dealt" ["way", "weights", "claims", "catch"] r):CanM P w K mg base (k+1) "rightly_dealt" ["way", "weights", "claims", "catch"] (aV r):=
  aO F eV fun cdv A outer s H E G W WR=>(aG (bF (i:=4) eV.nd rfl (Or.inl rfl) (aK W c_whole rfl (aA (aW (jL W.calm) sD rfl B.sum hZ (aA (aB 2 (pv 2)) aF aD)) aF aN)))
 (aG (jD (tst (eqA W.u) sJ (aB 0 (pv 0)) (aU cE fun _=>.str _) (bH _)) (aM (dX (bI W c_row_dealt rfl (aA (aB 2 (pv 2)) (aA (aB 3 (pv 3)) aF aD) aD)))) bO)
 (aG (jD (tst (eqA W.u) sJ (aB 0 (pv 0)) (aU cE fun _=>.str _) (bH _)) (aM (dX (bI W c_even_dealt rfl (aA (aB 1 (pv 1)) (aA (aB 2 (pv 2)) (aA (aB 3 (pv 3)) aF aD) aD) aD)))) bO)
 (aG (jD (tst (eqA W.u) sJ (aB 0 (pv 0)) (aU cE fun _=>.str _) (bH _)) (aM (dX (bI W c_part_dealt rfl (aA (aB 2 (pv 2)) (aA (aB 3 (pv 3)) aF aD) aD)))) bO)
 (aG (jD (PWd.pt (zFF (tst (eqA W.u) sJ (aB 0 (pv 0)) (aU cE fun _=>.str _) (bH _)) (xS (zRt (zAK (aK W c_less rfl (aA (aB 4 (pv 4)) (aA (aK W c_plus rfl (aA (aB 3 (pv 3)) (aA (aB 3 (pv 3)) aF aD) aD)) aF aN) aD))))))) (aM (dX (bI W c_half_dealt rfl (aA (aB 2 (pv 2)) (aA (aB 3 (pv 3)) aF aD) aD)))) bO)
 (aG (bF (i:=5) eV.nd rfl (Or.inl rfl) (PEf.d (bI W c_rightly_dealt rfl (aA (zKH C.CONTRARY.choose_spec rfl (aB 0 (pv 0)) (fun _ _=>rfl)) (aA (aB 1 (pv 1)) (aA (aB 2 (pv 2)) (aA (aK W c_minus rfl (aA (aB 4 (pv 4)) (aA (aB 3 (pv 3)) aF aD) aD)) aF aN) aD) aD) aR))))
 (aM (dX (tT (N:=["way", "weights", "claims", "catch", "most", "lacking"]) W (by decide +kernel) rfl (sc:=aI eA) rfl rfl (by decide +kernel) (zIy rfl B.zip (aA (aB 2 (pv 2)) (aA (aB 5 (pv 5)) aF aD) aD)) (fun C2 s2 H2 fp2 G W=>(aK W c_minus rfl (aA (aK W c_whole rfl (aA (aB 6 (pv 6)) aF aD)) (aA (aB 7 (pv 7)) aF aD) aN))))))))))))
theorem lI(F:Fn K mg "rightly_dealt" eA ["way", "weights", "claims", "catch"] f fd)(B:Bt mg)(KT:Kt K)(C:Ct K mg)(R:Rt K mg)(ET:Et K mg)(c_whole:CanM P w K mg base k "whole" ["number"] bN)(c_row_dealt:CanM P w K mg base k "row_dealt" ["claims", "catch"] gF)(c_even_dealt:CanM P w K mg base k "even_dealt" ["weights", "claims", "catch"] dF)(c_part_dealt:CanM P w K mg base k "part_dealt" ["claims", "catch"] fI)(c_half_dealt:CanM P w K mg base k "half_dealt" ["claims", "catch"] fF)(c_minus:CanM P w K mg base k "minus" ["one", "two"] cO)(c_less:CanM P w K mg base k "less" ["one", "two"] fN)(c_plus:CanM P w K mg base k "plus" ["one", "two"] lK):∀ n:Nat,CanM P w K mg base (k+1+n) "rightly_dealt" ["way", "weights", "claims", "catch"] (aQ n)
 | 0=>aO F eV fun cdv A outer s H E G W WR=>zCL
 | n+1=>sI (k:=k+1+n) F B KT C R ET (c_whole:=c_whole.mono (by omega)) (c_row_dealt:=c_row_dealt.mono (by omega)) (c_even_dealt:=c_even_dealt.mono (by omega)) (c_part_dealt:=c_part_dealt.mono (by omega)) (c_half_dealt:=c_half_dealt.mono (by omega)) (c_minus:=c_minus.mono (by omega)) (c_less:=c_less.mono (by omega)) (c_plus:=c_plus.mono (by omega)) (c_rightly_dealt:=lI F B KT C R ET (c_whole:=c_whole) (c_row_dealt:=c_row_dealt) (c_even_dealt:=c_even_dealt) (c_part_dealt:=c_part_dealt) (c_half_dealt:=c_half_dealt) (c_minus:=c_minus) (c_less:=c_less) (c_plus:=c_plus) n)
theorem zJr(F:Fn K mg "dealt" zDq ["way", "weights", "claims", "catch"] f fd)(B:Bt mg)(KT:Kt K)(C:Ct K mg)(R:Rt K mg)(ET:Et K mg)(c_looked:CanM P w K mg base k "looked" ["way", "weights", "claims"] kT)(c_refuse_outside:CanM P w K mg base k "refuse_outside" ["amount", "most"] aZ)(c_rightly_dealt:CanM P w K mg base k "rightly_dealt" ["way", "weights", "claims", "catch"] (aQ 2))(c_whole:CanM P w K mg base k "whole" ["number"] bN):CanM P w K mg base (k+1) "dealt" ["way", "weights", "claims", "catch"] qP:=
  aO F zKe fun cdv A outer s H E G W WR=>(aG (mI (aK W c_looked rfl (aA (aB 0 (pv 0)) (aA (aB 1 (pv 1)) (aA (aB 2 (pv 2)) aF aD) aD) aD)))
 (aG (mI (aK W c_refuse_outside rfl (aA (aB 3 (pv 3)) (aA (aK W c_whole rfl (aA (aW (jL W.calm) sD rfl B.sum hZ (aA (aB 2 (pv 2)) aF aD)) aF aN)) aF aN) aD)))
 (aM (dX (bI W c_rightly_dealt rfl (aA (aB 0 (pv 0)) (aA (aB 1 (pv 1)) (aA (aB 2 (pv 2)) (aA (aB 3 (pv 3)) aF aD) aD) aD) aD))))))
theorem zCm(F:Fn K mg "way_lines" iY ["way", "weights", "claims"] f fd)(B:Bt mg)(KT:Kt K)(C:Ct K mg)(R:Rt K mg)(ET:Et K mg)(c_looked:CanM P w K mg base k "looked" ["way", "weights", "claims"] kT)(c_without_doubles:CanM P w K mg base k "without_doubles" ["joints"] dA)(c_joints_of:CanM P w K mg base k "joints_of" ["way", "weights", "claims"] (bM 2))(c_rightly_dealt:CanM P w K mg base k "rightly_dealt" ["way", "weights", "claims", "catch"] (aQ 2))(c_line_at:CanM P w K mg base k "line_at" ["joints", "dealings", "spot"] lX):CanM P w K mg base (k+1) "way_lines" ["way", "weights", "claims"] gG:=
  aO F gU fun cdv A outer s H E G W WR=>(aG (mI (aK W c_looked rfl (aA (aB 0 (pv 0)) (aA (aB 1 (pv 1)) (aA (aB 2 (pv 2)) aF aD) aD) aD)))
 (aG (bF (i:=3) gU.nd rfl (Or.inr rfl) (PEf.d (bI W c_without_doubles rfl (aA (PEf.d (bI W c_joints_of rfl (aA (aB 0 (pv 0)) (aA (aB 1 (pv 1)) (aA (aB 2 (pv 2)) aF aD) aD) aD))) aF aN))))
 (aG (bF (i:=4) gU.nd rfl (Or.inr rfl) (PEf.d (eX W gU.nd rfl (sc:=aI iY) rfl rfl (by decide +kernel) (iS (aB 3 (pv 3))) (fun C2 s2 H2 fp2 G W=>⟨jI,(PEf.d (bI W c_rightly_dealt rfl (aA (aB 0 (pv 0)) (aA (aB 1 (pv 1)) (aA (aB 2 (pv 2)) (aA (aB 5 (pv 5)) aF aD) aD) aD) aD)))⟩))))
 (aM (dX (eX W gU.nd rfl (sc:=aI iY) rfl rfl (by decide +kernel) (zEQ rfl B.range (aA (aW aT eO rfl B.len QD (aA (aB 2 (pv 2)) aF aD)) aF aN)) (fun C2 s2 H2 fp2 G W=>⟨jI,(aK W c_line_at rfl (aA (aB 3 (pv 3)) (aA (aB 4 (pv 4)) (aA (aB 5 (pv 5)) aF aD) aD) aD))⟩)))))))
theorem zCG{r:Mir}(F:Fn K mg "_law_deep" kG ["custom"] f fd)(B:Bt mg)(KT:Kt K)(C:Ct K mg)(R:Rt K mg)(ET:Et K mg)(c_law_deep:CanM P w K mg base k "_law_deep" ["custom"] r):CanM P w K mg base (k+1) "_law_deep" ["custom"] (nJ r):=
  aO F oI fun cdv A outer s H E G W WR=>(aG (jD (tst (eqA W.u) sJ (aS aL bR (aB 0 (pv 0)) (aU aJ fun _=>.int _) (fun _ _=>rfl)) (aU cE fun _=>.str _) (bH _)) (aM (cH (aU aJ fun _=>.int _))) bO)
 (aM (cH (aY dU lO (aU aJ fun _=>.int _) (aW (zAL W.calm) zGk rfl B.max boot_max (aA (PEf.d (eX W oI.nd rfl (sc:=aI kG) rfl rfl (by decide +kernel) (iS (aS aL bR (aB 0 (pv 0)) (aU aJ fun _=>.int _) (fun _ _=>rfl))) (fun C2 s2 H2 fp2 G W=>⟨jI,(aK W c_law_deep rfl (aA (aB 1 (pv 1)) aF aD))⟩))) aF))))))
theorem tN(F:Fn K mg "_law_deep" kG ["custom"] f fd)(B:Bt mg)(KT:Kt K)(C:Ct K mg)(R:Rt K mg)(ET:Et K mg)  : ∀ n:Nat,CanM P w K mg base (k+1+n) "_law_deep" ["custom"] (dP n)
 | 0=>aO F oI fun cdv A outer s H E G W WR=>zCL
 | n+1=>zCG (k:=k+1+n) F B KT C R ET  (c_law_deep:=tN F B KT C R ET  n)
theorem zCp{r:Mir}(F:Fn K mg "_law_boats" lC ["custom"] f fd)(B:Bt mg)(KT:Kt K)(C:Ct K mg)(R:Rt K mg)(ET:Et K mg)(c_law_boats:CanM P w K mg base k "_law_boats" ["custom"] r):CanM P w K mg base (k+1) "_law_boats" ["custom"] (kK r):=
  aO F jO fun cdv A outer s H E G W WR=>(aG (jD (tst (eqA W.u) sJ (aS aL bR (aB 0 (pv 0)) (aU aJ fun _=>.int _) (fun _ _=>rfl)) (aU cE fun _=>.str _) (bH _)) (aM (dX (cN (aA (aS aL bR (aB 0 (pv 0)) (aU aJ fun _=>.int _) (fun _ _=>rfl)) aF aR)))) bO)
 (aG (qU (i:=1) jO.nd rfl (Or.inl rfl) (cN aF))
 (aG (mO W.own W.calm (iS (aS aL bR (aB 0 (pv 0)) (aU aJ fun _=>.int _) (fun _ _=>rfl))) (eR (i:=2) jO.nd rfl (Or.inl rfl)) cA (aM (zIb (i:=1) (pv 1) (bI W c_law_boats rfl (aA (aB 2 (pv 2)) aF aD)))))
 (aM (gM 1 (pv 1))))))
theorem sA(F:Fn K mg "_law_boats" lC ["custom"] f fd)(B:Bt mg)(KT:Kt K)(C:Ct K mg)(R:Rt K mg)(ET:Et K mg)  : ∀ n:Nat,CanM P w K mg base (k+1+n) "_law_boats" ["custom"] (gB n)
 | 0=>aO F jO fun cdv A outer s H E G W WR=>zCL
 | n+1=>zCp (k:=k+1+n) F B KT C R ET  (c_law_boats:=sA F B KT C R ET  n)
theorem zN(F:Fn K mg "_law_custom" jM ["cells", "plan", "most"] f fd)(B:Bt mg)(KT:Kt K)(C:Ct K mg)(R:Rt K mg)(ET:Et K mg)(c_law_knot:CanM P w K mg base k "_law_knot" ["kids", "mix", "plan"] eI)(c_law_mix:CanM P w K mg base k "_law_mix" ["cell", "k"] iU)(c_law_deep:CanM P w K mg base k "_law_deep" ["custom"] (dP 10)):CanM P w K mg base (k+1) "_law_custom" ["cells", "plan", "most"] gQ:=
  aO F cG fun cdv A outer s H E G W WR=>(aG (qU (i:=3) cG.nd rfl (Or.inl rfl) (cN aF))
 (aG (bF (i:=4) cG.nd rfl (Or.inl rfl) (aU aJ fun _=>.int _))
 (aG (mO W.own W.calm (zEQ rfl B.range (aA (aW aT eO rfl B.len QD (aA (aB 0 (pv 0)) aF aD)) aF aN)) (eR (i:=5) cG.nd rfl (Or.inl rfl)) cA (aG (bF (i:=6) cG.nd rfl (Or.inl rfl) (aK W c_law_mix rfl (aA (aS aL bR (aB 0 (pv 0)) (aB 5 (pv 5)) (fun _ _=>rfl)) (aA (aB 5 (pv 5)) aF aD) aR)))
 (aG (bF (i:=7) cG.nd rfl (Or.inl rfl) (aY dU lO (aU aJ fun _=>.int _) (aY dW lM (aY cW kF (aB 6 (pv 6)) (aU aJ fun _=>.int _)) (aU aJ fun _=>.int _))))
 (aM (jD (PTd.frz (PWd.pt (zPa (PWd.pt (zFF (tst pJ zDV (aY dW lM (aY cW kF (aB 6 (pv 6)) (aU aJ fun _=>.int _)) (aU aJ fun _=>.int _)) (aU aJ fun _=>.int _) (bH _)) (xS (tst pJ zDV (aB 4 (pv 4)) (aB 2 (pv 2)) (bH _))))) (zIs (tst (eqA W.u) sJ (aB 3 (pv 3)) (PEf.d (cN aF)) (bH _)))))) (aG (bF (i:=4) cG.nd rfl (Or.inl rfl) (aY dU lO (aB 4 (pv 4)) (aU aJ fun _=>.int _)))
 (aM (zAO (i:=3) (pv 3) (eN (aA (aU cE fun _=>.str _) (aA (aS aL bR (PEf.d (cN (aA (aY dW lM (aY cW kF (aB 6 (pv 6)) (aU aJ fun _=>.int _)) (aU aJ fun _=>.int _)) (aA (aY dW lM (aY cW kF (aB 6 (pv 6)) (aU aJ fun _=>.int _)) (aU aJ fun _=>.int _)) (aA (aY dW lM (aY cW kF (aB 6 (pv 6)) (aU aJ fun _=>.int _)) (aY zAw zJg (aU aJ fun _=>.int _) (aU aJ fun _=>.int _))) aF bK) bK) bK))) (aY dW lM (aB 1 (pv 1)) (aU aJ fun _=>.int _)) (fun _ _=>rfl)) aF aR) bL))))) (aM (jD (PTd.frz (tst pJ zDV (aW (zAL W.calm) zGk rfl B.max boot_max (aA (PEf.d (eX W cG.nd rfl (sc:=aI jM) rfl rfl (by decide +kernel) (iS (PEf.d (kR (aB 3 (pv 3)) (kY (pO (aB 7 (pv 7)))) uP))) (fun C2 s2 H2 fp2 G W=>⟨jI,(aK W c_law_deep rfl (aA (aB 8 (pv 8)) aF aD))⟩))) aF)) (aU aJ fun _=>.int _) (bH _))) (aM (qU (i:=3) cG.nd rfl (Or.inl rfl) (PEf.frz (zHk (PEf.d (kR (aB 3 (pv 3)) uP (kY (pO (aB 7 (pv 7)))))) (PEf.d (cN (aA (aK W c_law_knot rfl (aA (PEf.d (kR (aB 3 (pv 3)) (kY (pO (aB 7 (pv 7)))) uP)) (aA (aY cW kF (aB 6 (pv 6)) (aU aJ fun _=>.int _)) (aA (aB 1 (pv 1)) aF aD) bK) aR)) aF aN))))))) bO)))))))
 (fO.frzAt 3 (aG (jD (tst (eqA W.u) sJ (aB 3 (pv 3)) (PEf.d (cN aF)) (bH _)) (aM (cH (eN (aA (aU cE fun _=>.str _) (aA (aY dW lM (aB 1 (pv 1)) (aU aJ fun _=>.int _)) aF bK) bL)))) bO)
 (aG (jD (tst (eqA W.u) sJ (aW aT eO rfl B.len QD (aA (aB 3 (pv 3)) aF aD)) (aU aJ fun _=>.int _) (bH _)) (aM (cH (aS aL bR (aB 3 (pv 3)) (aU aJ fun _=>.int _) (fun _ _=>rfl)))) bO)
 (aM (cH (aK W c_law_knot rfl (aA (aB 3 (pv 3)) (aA (aY cW kF (aB 1 (pv 1)) (aU aJ fun _=>.int _)) (aA (aB 1 (pv 1)) aF aD) bK) aD))))))))))
theorem zAU{r:Mir}(F:Fn K mg "claims_of" kX ["custom"] f fd)(B:Bt mg)(KT:Kt K)(C:Ct K mg)(R:Rt K mg)(ET:Et K mg)(c_is_boat:CanM P w K mg base k "is_boat" ["custom"] cD)(c_kids_of:CanM P w K mg base k "kids_of" ["custom"] cU)(c_claims_of:CanM P w K mg base k "claims_of" ["custom"] r):CanM P w K mg base (k+1) "claims_of" ["custom"] (lA r):=
  aO F jG fun cdv A outer s H E G W WR=>(aG (jD (zAK (aK W c_is_boat rfl (aA (aB 0 (pv 0)) aF aD))) (aM (dX (cN (aA (aS aL bR (aB 0 (pv 0)) (aU aJ fun _=>.int _) (fun _ _=>rfl)) aF aR)))) bO)
 (aG (qU (i:=1) jG.nd rfl (Or.inl rfl) (cN aF))
 (aG (mO W.own W.calm (iS (aK W c_kids_of rfl (aA (aB 0 (pv 0)) aF aD))) (eR (i:=2) jG.nd rfl (Or.inl rfl)) cA (aM (zIb (i:=1) (pv 1) (bI W c_claims_of rfl (aA (aB 2 (pv 2)) aF aD)))))
 (aM (gM 1 (pv 1))))))
theorem rV(F:Fn K mg "claims_of" kX ["custom"] f fd)(B:Bt mg)(KT:Kt K)(C:Ct K mg)(R:Rt K mg)(ET:Et K mg)(c_is_boat:CanM P w K mg base k "is_boat" ["custom"] cD)(c_kids_of:CanM P w K mg base k "kids_of" ["custom"] cU):∀ n:Nat,CanM P w K mg base (k+1+n) "claims_of" ["custom"] (fZ n)
 | 0=>aO F jG fun cdv A outer s H E G W WR=>zCL
 | n+1=>zAU (k:=k+1+n) F B KT C R ET (c_is_boat:=c_is_boat.mono (by omega)) (c_kids_of:=c_kids_of.mono (by omega)) (c_claims_of:=rV F B KT C R ET (c_is_boat:=c_is_boat) (c_kids_of:=c_kids_of) n)
theorem zDz(F:Fn K mg "claim_of" qM ["custom"] f fd)(B:Bt mg)(KT:Kt K)(C:Ct K mg)(R:Rt K mg)(ET:Et K mg)(c_claims_of:CanM P w K mg base k "claims_of" ["custom"] (fZ 10)):CanM P w K mg base (k+1) "claim_of" ["custom"] dO:=
 aO F zCR fun cdv A outer s H E G W WR=>(aM (cH (aW (jL W.calm) sD rfl B.sum hZ (aA (PEf.d (bI W c_claims_of rfl (aA (aB 0 (pv 0)) aF aD))) aF aN))))
theorem yS(F:Fn K mg "kid_claims" jN ["custom"] f fd)(B:Bt mg)(KT:Kt K)(C:Ct K mg)(R:Rt K mg)(ET:Et K mg)(c_claim_of:CanM P w K mg base k "claim_of" ["custom"] dO)(c_kids_of:CanM P w K mg base k "kids_of" ["custom"] cU):CanM P w K mg base (k+1) "kid_claims" ["custom"] cS:=
 aO F qC fun cdv A outer s H E G W WR=>(aM (dX (eX W qC.nd rfl (sc:=aI jN) rfl rfl (by decide +kernel) (iS (aK W c_kids_of rfl (aA (aB 0 (pv 0)) aF aD))) (fun C2 s2 H2 fp2 G W=>⟨jI,(aK W c_claim_of rfl (aA (aB 1 (pv 1)) aF aD))⟩))))
theorem zCC{r:Mir}(F:Fn K mg "dealt_on" nD ["custom", "catch"] f fd)(B:Bt mg)(KT:Kt K)(C:Ct K mg)(R:Rt K mg)(ET:Et K mg)(c_is_boat:CanM P w K mg base k "is_boat" ["custom"] cD)(c_dealt:CanM P w K mg base k "dealt" ["way", "weights", "claims", "catch"] qP)(c_way_of:CanM P w K mg base k "way_of" ["custom"] iK)(c_weights_of:CanM P w K mg base k "weights_of" ["custom"] cP)(c_kid_claims:CanM P w K mg base k "kid_claims" ["custom"] cS)(c_kids_of:CanM P w K mg base k "kids_of" ["custom"] cU)(c_dealt_on:CanM P w K mg base k "dealt_on" ["custom", "catch"] r):CanM P w K mg base (k+1) "dealt_on" ["custom", "catch"] (iO r):=
  aO F gI fun cdv A outer s H E G W WR=>(aG (jD (zAK (aK W c_is_boat rfl (aA (aB 0 (pv 0)) aF aD))) (aM (dX (cN (aA (aB 1 (pv 1)) aF aD)))) bO)
 (aG (bF (i:=2) gI.nd rfl (Or.inl rfl) (PEf.d (bI W c_dealt rfl (aA (aK W c_way_of rfl (aA (aB 0 (pv 0)) aF aD)) (aA (aK W c_weights_of rfl (aA (aB 0 (pv 0)) aF aD)) (aA (PEf.d (bI W c_kid_claims rfl (aA (aB 0 (pv 0)) aF aD))) (aA (aB 1 (pv 1)) aF aD) aN) aN) aN))))
 (aG (qU (i:=3) gI.nd rfl (Or.inl rfl) (cN aF))
 (aG (mO W.own W.calm (zIy rfl B.zip (aA (aK W c_kids_of rfl (aA (aB 0 (pv 0)) aF aD)) (aA (aB 2 (pv 2)) aF aD) aN)) (zPr W.calm (zAv (eR (i:=4) gI.nd rfl (Or.inl rfl)) (zAv (eR (i:=5) gI.nd rfl (Or.inl rfl)) zKB)) (yK (yK zLj))) (zGV (tE cA (tE cA zIm))) (aM (zIb (i:=3) (pv 3) (bI W c_dealt_on rfl (aA (aB 4 (pv 4)) (aA (aB 5 (pv 5)) aF aD) aD)))))
 (aM (gM 3 (pv 3)))))))
theorem vM(F:Fn K mg "dealt_on" nD ["custom", "catch"] f fd)(B:Bt mg)(KT:Kt K)(C:Ct K mg)(R:Rt K mg)(ET:Et K mg)(c_is_boat:CanM P w K mg base k "is_boat" ["custom"] cD)(c_dealt:CanM P w K mg base k "dealt" ["way", "weights", "claims", "catch"] qP)(c_way_of:CanM P w K mg base k "way_of" ["custom"] iK)(c_weights_of:CanM P w K mg base k "weights_of" ["custom"] cP)(c_kid_claims:CanM P w K mg base k "kid_claims" ["custom"] cS)(c_kids_of:CanM P w K mg base k "kids_of" ["custom"] cU):∀ n:Nat,CanM P w K mg base (k+1+n) "dealt_on" ["custom", "catch"] (fG n)
 | 0=>aO F gI fun cdv A outer s H E G W WR=>zCL
 | n+1=>zCC (k:=k+1+n) F B KT C R ET (c_is_boat:=c_is_boat.mono (by omega)) (c_dealt:=c_dealt.mono (by omega)) (c_way_of:=c_way_of.mono (by omega)) (c_weights_of:=c_weights_of.mono (by omega)) (c_kid_claims:=c_kid_claims.mono (by omega)) (c_kids_of:=c_kids_of.mono (by omega)) (c_dealt_on:=vM F B KT C R ET (c_is_boat:=c_is_boat) (c_dealt:=c_dealt) (c_way_of:=c_way_of) (c_weights_of:=c_weights_of) (c_kid_claims:=c_kid_claims) (c_kids_of:=c_kids_of) n)
theorem zDu{r:Mir}(F:Fn K mg "lines_of" kI ["custom"] f fd)(B:Bt mg)(KT:Kt K)(C:Ct K mg)(R:Rt K mg)(ET:Et K mg)(c_is_boat:CanM P w K mg base k "is_boat" ["custom"] cD)(c_way_lines:CanM P w K mg base k "way_lines" ["way", "weights", "claims"] gG)(c_way_of:CanM P w K mg base k "way_of" ["custom"] iK)(c_weights_of:CanM P w K mg base k "weights_of" ["custom"] cP)(c_kid_claims:CanM P w K mg base k "kid_claims" ["custom"] cS)(c_kids_of:CanM P w K mg base k "kids_of" ["custom"] cU)(c_straight:CanM P w K mg base k "straight" ["claim"] gD)(c_claim_of:CanM P w K mg base k "claim_of" ["custom"] dO)(c_behind:CanM P w K mg base k "behind" ["one", "two"] gN)(c_lines_of:CanM P w K mg base k "lines_of" ["custom"] r):CanM P w K mg base (k+1) "lines_of" ["custom"] (iN r):=
  aO F eY fun cdv A outer s H E G W WR=>(aG (jD (zAK (aK W c_is_boat rfl (aA (aB 0 (pv 0)) aF aD))) (aM (dX (cN (aA (aK W c_straight rfl (aA (aK W c_claim_of rfl (aA (aB 0 (pv 0)) aF aD)) aF aN)) aF aN)))) bO)
 (aG (bF (i:=1) eY.nd rfl (Or.inl rfl) (PEf.d (bI W c_way_lines rfl (aA (aK W c_way_of rfl (aA (aB 0 (pv 0)) aF aD)) (aA (aK W c_weights_of rfl (aA (aB 0 (pv 0)) aF aD)) (aA (PEf.d (bI W c_kid_claims rfl (aA (aB 0 (pv 0)) aF aD))) aF aN) aN) aN))))
 (aG (qU (i:=2) eY.nd rfl (Or.inl rfl) (cN aF))
 (aG (mO W.own W.calm (zIy rfl B.zip (aA (aK W c_kids_of rfl (aA (aB 0 (pv 0)) aF aD)) (aA (aB 1 (pv 1)) aF aD) aN)) (zPr W.calm (zAv (eR (i:=3) eY.nd rfl (Or.inl rfl)) (zAv (eR (i:=4) eY.nd rfl (Or.inr rfl)) zKB)) (yK (yK zLj))) (zGV (tE cA (tE cA zIm))) (aM (zIb (i:=2) (pv 2) (eX W eY.nd rfl (sc:=aI kI) rfl rfl (by decide +kernel) (iS (PEf.d (bI W c_lines_of rfl (aA (aB 3 (pv 3)) aF aD)))) (fun C2 s2 H2 fp2 G W=>⟨jI,(aK W c_behind rfl (aA (aB 5 (pv 5)) (aA (aB 4 (pv 4)) aF aD) aD))⟩)))))
 (aM (gM 2 (pv 2)))))))
theorem vJ(F:Fn K mg "lines_of" kI ["custom"] f fd)(B:Bt mg)(KT:Kt K)(C:Ct K mg)(R:Rt K mg)(ET:Et K mg)(c_is_boat:CanM P w K mg base k "is_boat" ["custom"] cD)(c_way_lines:CanM P w K mg base k "way_lines" ["way", "weights", "claims"] gG)(c_way_of:CanM P w K mg base k "way_of" ["custom"] iK)(c_weights_of:CanM P w K mg base k "weights_of" ["custom"] cP)(c_kid_claims:CanM P w K mg base k "kid_claims" ["custom"] cS)(c_kids_of:CanM P w K mg base k "kids_of" ["custom"] cU)(c_straight:CanM P w K mg base k "straight" ["claim"] gD)(c_claim_of:CanM P w K mg base k "claim_of" ["custom"] dO)(c_behind:CanM P w K mg base k "behind" ["one", "two"] gN):∀ n:Nat,CanM P w K mg base (k+1+n) "lines_of" ["custom"] (fE n)
 | 0=>aO F eY fun cdv A outer s H E G W WR=>zCL
 | n+1=>zDu (k:=k+1+n) F B KT C R ET (c_is_boat:=c_is_boat.mono (by omega)) (c_way_lines:=c_way_lines.mono (by omega)) (c_way_of:=c_way_of.mono (by omega)) (c_weights_of:=c_weights_of.mono (by omega)) (c_kid_claims:=c_kid_claims.mono (by omega)) (c_kids_of:=c_kids_of.mono (by omega)) (c_straight:=c_straight.mono (by omega)) (c_claim_of:=c_claim_of.mono (by omega)) (c_behind:=c_behind.mono (by omega)) (c_lines_of:=vJ F B KT C R ET (c_is_boat:=c_is_boat) (c_way_lines:=c_way_lines) (c_way_of:=c_way_of) (c_weights_of:=c_weights_of) (c_kid_claims:=c_kid_claims) (c_kids_of:=c_kids_of) (c_straight:=c_straight) (c_claim_of:=c_claim_of) (c_behind:=c_behind) n)
theorem zIv(F:Fn K mg "shares" zK ["custom", "catch"] f fd)(B:Bt mg)(KT:Kt K)(C:Ct K mg)(R:Rt K mg)(ET:Et K mg)(c_refuse_outside:CanM P w K mg base k "refuse_outside" ["amount", "most"] aZ)(c_dealt_on:CanM P w K mg base k "dealt_on" ["custom", "catch"] (fG 10))(c_whole:CanM P w K mg base k "whole" ["number"] bN)(c_claim_of:CanM P w K mg base k "claim_of" ["custom"] dO):CanM P w K mg base (k+1) "shares" ["custom", "catch"] jR:=
  aO F zGF fun cdv A outer s H E G W WR=>(aG (mI (aK W c_refuse_outside rfl (aA (aB 1 (pv 1)) (aA (aK W c_whole rfl (aA (aK W c_claim_of rfl (aA (aB 0 (pv 0)) aF aD)) aF aN)) aF aN) aD)))
 (aM (dX (bI W c_dealt_on rfl (aA (aB 0 (pv 0)) (aA (aB 1 (pv 1)) aF aD) aD)))))
theorem yI(F:Fn K mg "catches_of" lU ["custom", "boat", "amount"] f fd)(B:Bt mg)(KT:Kt K)(C:Ct K mg)(R:Rt K mg)(ET:Et K mg)(c_lines_of:CanM P w K mg base k "lines_of" ["custom"] (fE 10))(c_stretch:CanM P w K mg base k "stretch" ["line", "y"] kJ):CanM P w K mg base (k+1) "catches_of" ["custom", "boat", "amount"] dD:=
  aO F pA fun cdv A outer s H E G W WR=>(aG (bF (i:=3) pA.nd rfl (Or.inl rfl) (PEf.d (bI W c_lines_of rfl (aA (aB 0 (pv 0)) aF aD))))
 (aG (jD (PWd.pt (zPa (tst pJ zDV (aB 1 (pv 1)) (aU aJ fun _=>.int _) (bH _)) (zIs (tst zQq zRS (aB 1 (pv 1)) (aW aT eO rfl B.len QD (aA (aB 3 (pv 3)) aF aD)) (bH _))))) (aM (gJ W WR R.NoBoat rfl (aA (aU cE fun _=>.str _) aF bL))) bO)
 (aM (cH (aK W c_stretch rfl (aA (aS aL bR (aB 3 (pv 3)) (aB 1 (pv 1)) (fun _ _=>rfl)) (aA (aB 2 (pv 2)) aF aD) aR))))))
theorem zPM(F:Fn K mg "law" vB ["script"] f fd)(B:Bt mg)(KT:Kt K)(C:Ct K mg)(R:Rt K mg)(ET:Et K mg)(c_law_cell_at:CanM P w K mg base k "_law_cell_at" ["script", "k"] fV)(c_law_custom:CanM P w K mg base k "_law_custom" ["cells", "plan", "most"] gQ)(c_law_boats:CanM P w K mg base k "_law_boats" ["custom"] (gB 10))(c_law_mix:CanM P w K mg base k "_law_mix" ["cell", "k"] iU)(c_law_made:CanM P w K mg base k "_law_made" ["top", "bottom"] eH)(c_catches_of:CanM P w K mg base k "catches_of" ["custom", "boat", "amount"] dD)(c_law_times:CanM P w K mg base k "_law_times" ["one", "two"] iR)(c_law_less:CanM P w K mg base k "_law_less" ["one", "two"] fH)(c_law_plus:CanM P w K mg base k "_law_plus" ["one", "two"] kE)(c_shares:CanM P w K mg base k "shares" ["custom", "catch"] jR):FnOk P w K mg base (CX1 P w) (k+1) f fd ["script"] (spM K mg 1 zMz):=
  zOZ F gP fun cdv A outer s H E G W WR=>(aG (bF (i:=1) gP.nd rfl (Or.inl rfl) (aK W c_law_cell_at rfl (aA (aB 0 (pv 0)) (aA (aU aJ fun _=>.int _) aF bL) aD)))
 (aG (bF (i:=2) gP.nd rfl (Or.inl rfl) (oX zIR zOE rfl B.int boot_int (aA (zBE (eqA W.u) sJ (aY dW lM (aY cW kF (aB 1 (pv 1)) (aU aJ fun _=>.int _)) (aU aJ fun _=>.int _)) (aU aJ fun _=>.int _) (bH _)) aF)))
 (aG (bF (i:=3) gP.nd rfl (Or.inl rfl) (aS aL bR (PEf.d (cN (aA (aU aJ fun _=>.int _) (aA (aU aJ fun _=>.int _) aF bL) bL))) (aB 2 (pv 2)) (fun _ _=>rfl)))
 (aG (bF (i:=4) gP.nd rfl (Or.inl rfl) (aK W c_law_custom rfl (aA (PEf.d (kR (aB 0 (pv 0)) (kY (aU aJ fun _=>.int _)) (kY (aY dU lO (aB 3 (pv 3)) (aU aJ fun _=>.int _))))) (aA (aB 1 (pv 1)) (aA (aS aL bR (PEf.d (cN (aA (aU aJ fun _=>.int _) (aA (aU aJ fun _=>.int _) aF bL) bL))) (aB 2 (pv 2)) (fun _ _=>rfl)) aF aR) aD) aR)))
 (aG (bF (i:=5) gP.nd rfl (Or.inl rfl) (PEf.d (bI W c_law_boats rfl (aA (aB 4 (pv 4)) aF aD))))
 (aG (bF (i:=6) gP.nd rfl (Or.inl rfl) (aW (jL W.calm) sD rfl B.sum hZ (aA (aB 5 (pv 5)) aF aD)))
 (aG (mO W.own W.calm (zEQ rfl B.range (aA (aW aT eO rfl B.len QD (aA (aB 5 (pv 5)) aF aD)) aF aN)) (eR (i:=7) gP.nd rfl (Or.inl rfl)) cA (aM (jD (PWd.pt (zFF (tst (eqA W.u) sJ (aS aL bR (aB 5 (pv 5)) (aB 7 (pv 7)) (fun _ _=>rfl)) (aU aJ fun _=>.int _) (bH _)) (xS (tst (neA W.u) zNC (aK W c_catches_of rfl (aA (aB 4 (pv 4)) (aA (aB 7 (pv 7)) (aA (eN (aA (aU aJ fun _=>.int _) (aA (aU aJ fun _=>.int _) aF bL) bL)) aF mW) aD) aD)) (eN (aA (eN (aA (aU aJ fun _=>.int _) (aA (aU aJ fun _=>.int _) aF bL) bL)) (aA (eN (aA (aB 6 (pv 6)) (aA (aU aJ fun _=>.int _) aF bL) aD)) aF mW) mW)) (bH _))))) (aM (cH (aU zIj fun _=>.bl _))) bO)))
 (aG (mO W.own W.calm (iS (PEf.d (zHk (PEf.d (cN (aA (aU aJ fun _=>.int _) aF bL))) (PEf.d (kR (aB 0 (pv 0)) (kY (aY dU lO (aB 3 (pv 3)) (aU aJ fun _=>.int _))) (kY (aY dU lO (aB 3 (pv 3)) (aS aL bR (PEf.d (cN (aA (aU aJ fun _=>.int _) (aA (aU aJ fun _=>.int _) aF bL) bL))) (aB 2 (pv 2)) (fun _ _=>rfl))))))))) (eR (i:=8) gP.nd rfl (Or.inl rfl)) cA (aG (bF (i:=9) gP.nd rfl (Or.inl rfl) (aY dW lM (aY cW kF (aB 8 (pv 8)) (aU aJ fun _=>.int _)) (aW aT eO rfl B.len QD (aA (aB 5 (pv 5)) aF aD))))
 (aG (bF (i:=10) gP.nd rfl (Or.inl rfl) (aK W c_law_mix rfl (aA (aB 8 (pv 8)) (aA (aU aJ fun _=>.int _) aF bL) aD)))
 (aG (bF (i:=11) gP.nd rfl (Or.inl rfl) (aY dU lO (aU aJ fun _=>.int _) (aY dW lM (aY cW kF (aB 10 (pv 10)) (aU aJ fun _=>.int _)) (aU aJ fun _=>.int _))))
 (aG (bF (i:=12) gP.nd rfl (Or.inl rfl) (aK W c_law_made rfl (aA (aY cC iH (aB 6 (pv 6)) (aY dW lM (aY cW kF (aB 10 (pv 10)) (aU aJ fun _=>.int _)) (aY dU lO (aB 11 (pv 11)) (aU aJ fun _=>.int _)))) (aA (aB 11 (pv 11)) aF aD) bK)))
 (aG (bF (i:=13) gP.nd rfl (Or.inl rfl) (aK W c_catches_of rfl (aA (aB 4 (pv 4)) (aA (aB 9 (pv 9)) (aA (aS aL bR (PEf.d (bI W c_shares rfl (aA (aB 4 (pv 4)) (aA (aB 12 (pv 12)) aF aD) aD))) (aB 9 (pv 9)) (fun _ _=>rfl)) aF aR) aD) aD)))
 (aG (jD (PWd.pt (zPa (zAK (aK W c_law_less rfl (aA (aB 12 (pv 12)) (aA (aS aL bR (aB 13 (pv 13)) (aU aJ fun _=>.int _) (fun _ _=>rfl)) aF aR) aD))) (zIs (zAK (aK W c_law_less rfl (aA (aS aL bR (aB 13 (pv 13)) (aU aJ fun _=>.int _) (fun _ _=>rfl)) (aA (aB 12 (pv 12)) aF aD) aR)))))) (aM (cH (aU zIj fun _=>.bl _))) bO)
 (aG (mO W.own W.calm (iS (aB 13 (pv 13))) (eR (i:=14) gP.nd rfl (Or.inl rfl)) cA (aM (jD (tst (neA W.u) zNC (aK W c_catches_of rfl (aA (aB 4 (pv 4)) (aA (aB 9 (pv 9)) (aA (aS aL bR (PEf.d (bI W c_shares rfl (aA (aB 4 (pv 4)) (aA (aB 14 (pv 14)) aF aD) aD))) (aB 9 (pv 9)) (fun _ _=>rfl)) aF aR) aD) aD)) (aB 13 (pv 13)) (bH _)) (aM (cH (aU zIj fun _=>.bl _))) bO)))
 (aG (bF (i:=15) gP.nd rfl (Or.inl rfl) (aK W c_law_times rfl (aA (eN (aA (aU aJ fun _=>.int _) (aA (aU aJ fun _=>.int _) aF bL) bL)) (aA (aK W c_law_plus rfl (aA (aB 12 (pv 12)) (aA (eN (aA (aB 6 (pv 6)) (aA (aU aJ fun _=>.int _) aF bL) aD)) aF mW) aD)) aF aN) mW)))
 (aG (bF (i:=16) gP.nd rfl (Or.inl rfl) (aK W c_catches_of rfl (aA (aB 4 (pv 4)) (aA (aB 9 (pv 9)) (aA (aS aL bR (PEf.d (bI W c_shares rfl (aA (aB 4 (pv 4)) (aA (aB 15 (pv 15)) aF aD) aD))) (aB 9 (pv 9)) (fun _ _=>rfl)) aF aR) aD) aD)))
 (aM (jD (PWd.pt (zPa (zAK (aK W c_law_less rfl (aA (aS aL bR (aB 16 (pv 16)) (aU aJ fun _=>.int _) (fun _ _=>rfl)) (aA (aS aL bR (aB 13 (pv 13)) (aU aJ fun _=>.int _) (fun _ _=>rfl)) aF aR) aR))) (zIs (zAK (aK W c_law_less rfl (aA (aS aL bR (aB 16 (pv 16)) (aU aJ fun _=>.int _) (fun _ _=>rfl)) (aA (aS aL bR (aB 13 (pv 13)) (aU aJ fun _=>.int _) (fun _ _=>rfl)) aF aR) aR)))))) (aM (cH (aU zIj fun _=>.bl _))) bO))))))))))))
 (aM (cH (aU zIj fun _=>.bl _)))))))))))
end
def FnK(K:PySem.W.Frag)(x:Str)(st:Stmt):Prop:=∃ f oc od sl kV dc pm an cd ct,PySem.W.nsIn K mainGlobals x=some (some (.ref f))/\K.lookup f=some ⟨oc,od,.func (PySem.W.fnOf x x (jU st) (fR st) (aI st) .none kV dc pm an cd ct),sl⟩/\PySem.W.codeIn K cd x=true/\PySem.W.keepIn K (.ref f)=true
theorem fk{K:PySem.W.Frag}{h:Heap}{mg:Str->Option Value}{x:Str}{st:Stmt}(X:K.In h)(G:h.Ns mainGlobals mg)(d:FnK K x st)(ps:List Str)(hb:∀ (kV doc pm:Value) (an:Option Addr) (cdv ct:Value) (us:List Value),us.length=ps.length->bindArgs (PySem.W.fnOf x x (jU st) (fR st) (aI st) .none kV doc pm an cdv ct) ⟨us,[]⟩=pure (ps.zip us)):∃ f fd,Fn K mg x st ps f fd:=by
 obtain⟨f,oc,od,sl,kV,dc,pm,an,cd,ct,a,l,c,k⟩:=d;exact⟨f,_,xF (st:=st) l c k,(xF (st:=st) l c k).binds (ps:=ps) hb,k,Q8 X G a⟩
theorem fkm{K:PySem.W.Frag}{x:Str}{st:Stmt}{f:Addr}{oc:Value}{od an:Option Addr}{sl:Array (Option Value)}{kV dc pm cd ct:Value}(a:PySem.W.nsIn K mainGlobals x=some (some (.ref f)))(l:K.lookup f=some ⟨oc,od,.func (PySem.W.fnOf x x (jU st) (fR st) (aI st) .none kV dc pm an cd ct),sl⟩)(c:PySem.W.codeIn K cd x=true)(k:PySem.W.keepIn K (.ref f)=true):FnK K x st:=⟨f,oc,od,sl,kV,dc,pm,an,cd,ct,a,l,c,k⟩
theorem zOx{l:PySem.W.OpenLaw}{w:World}{K:PySem.W.Frag}{h:Heap}{mg:Str->Option Value}{fa f11 f65:Addr}(X:K.In h)(G:h.Ns mainGlobals mg)(hfa:mg "law" = some (.ref fa))
  {od11 an11:Option Addr} {sl11:Array (Option Value)} {oc11 kV11 dc11 pm11 ct11:Value}
  {od65 an65:Option Addr} {sl65:Array (Option Value)} {oc65 kV65 dc65 pm65 cd65 ct65:Value}
  (d0:FnK K "common_divisor" iD)
  (d1:FnK K "made" zGj)
  (d2:FnK K "whole" zCS)
  (d3:FnK K "plus" zHC)
  (d4:FnK K "minus" zCA)
  (d5:FnK K "times" zDp)
  (d6:FnK K "over" zFZ)
  (d7:FnK K "less" zGq)
  (d8:FnK K "lesser" zAf)
  (d9:FnK K "is_outside" mJ)
  (d10:FnK K "refuse_outside" iB)
  {cR T:Addr}
  (a11:PySem.W.nsIn K mainGlobals "ranked" = some (some (.ref f11))) (l11:K.lookup f11=some ⟨oc11,od11,.func (PySem.W.fnOf "ranked" "ranked" (jU iJ) (fR iJ) (aI iJ) .none kV11 dc11 pm11 an11 (.ref cR) ct11),sl11⟩) (c11:PySem.W.codeIn K (.ref cR) "ranked" = true) (k11:PySem.W.keepIn K (.ref f11)=true)
  (tq:PySem.W.codeHdIn K cR T=true) (tn:K.lookup T=none)
  (d12:FnK K "looked" zAF)
  (d13:FnK K "refuse_way" mG)
  (d14:FnK K "refuse_claims" iZ)
  (d15:FnK K "refuse_weights" iF)
  (d16:FnK K "contrary_way" kC)
  (d17:FnK K "dealt" zDq)
  (d18:FnK K "rightly_dealt" eA)
  (d19:FnK K "row_dealt" oD)
  (d20:FnK K "even_dealt" mC)
  (d21:FnK K "levels_of" kW)
  (d22:FnK K "part_dealt" jK)
  (d23:FnK K "half_dealt" jP)
  (d24:FnK K "is_boat" uC)
  (d25:FnK K "way_of" zAt)
  (d26:FnK K "weights_of" mK)
  (d27:FnK K "kids_of" tJ)
  (d28:FnK K "claims_of" kX)
  (d29:FnK K "claim_of" qM)
  (d30:FnK K "kid_claims" jN)
  (d31:FnK K "shares" zK)
  (d32:FnK K "dealt_on" nD)
  (d33:FnK K "line_of" vN)
  (d34:FnK K "refuse_bad" lW)
  (d35:FnK K "is_between" lY)
  (d36:FnK K "length" yZ)
  (d37:FnK K "height" zB)
  (d38:FnK K "value" zCW)
  (d39:FnK K "stretch" uB)
  (d40:FnK K "first_reaching" iE)
  (d41:FnK K "met" zMN)
  (d42:FnK K "behind" pN)
  (d43:FnK K "places" sU)
  (d44:FnK K "merged" zAr)
  (d45:FnK K "way_lines" iY)
  (d46:FnK K "line_at" pE)
  (d47:FnK K "joints_of" iW)
  (d48:FnK K "row_joints" mT)
  (d49:FnK K "even_joints" kN)
  (d50:FnK K "mirrored" mU)
  (d51:FnK K "without_doubles" gK)
  (d52:FnK K "lines_of" kI)
  (d53:FnK K "straight" qN)
  (d54:FnK K "catches_of" lU)
  (d55:FnK K "_law_cell_at" kM)
  (d56:FnK K "_law_made" qV)
  (d57:FnK K "_law_plus" rH)
  (d58:FnK K "_law_times" nZ)
  (d59:FnK K "_law_less" qH)
  (d60:FnK K "_law_mix" tW)
  (d61:FnK K "_law_knot" nE)
  (d62:FnK K "_law_deep" kG)
  (d63:FnK K "_law_custom" jM)
  (d64:FnK K "_law_boats" lC)
  (a65:PySem.W.nsIn K mainGlobals "law" = some (some (.ref f65))) (l65:K.lookup f65=some ⟨oc65,od65,.func (PySem.W.fnOf "law" "law" (jU vB) (fR vB) (aI vB) .none kV65 dc65 pm65 an65 cd65 ct65),sl65⟩) (c65:PySem.W.codeIn K cd65 "law" = true) (k65:PySem.W.keepIn K (.ref f65)=true)
  (z_abs:PySem.W.nsIn K mainGlobals "abs" = some none)
  (z_sorted:PySem.W.nsIn K mainGlobals "sorted" = some none)
  (z_range:PySem.W.nsIn K mainGlobals "range" = some none)
  (z_len:PySem.W.nsIn K mainGlobals "len" = some none)
  (z_sum:PySem.W.nsIn K mainGlobals "sum" = some none)
  (z_zip:PySem.W.nsIn K mainGlobals "zip" = some none)
  (z_tuple:PySem.W.nsIn K mainGlobals "tuple" = some none)
  (z_min:PySem.W.nsIn K mainGlobals "min" = some none)
  (z_reversed:PySem.W.nsIn K mainGlobals "reversed" = some none)
  (z_max:PySem.W.nsIn K mainGlobals "max" = some none)
  (z_int:PySem.W.nsIn K mainGlobals "int" = some none)
  (KT:Kt K) (CC:∀(h:Heap)(mg:Str->Option Value),K.In h->h.Ns mainGlobals mg->Ct K mg) (RR:∀(h:Heap)(mg:Str->Option Value),K.In h->h.Ns mainGlobals mg->Rt K mg) (EE:∀(h:Heap)(mg:Str->Option Value),K.In h->h.Ns mainGlobals mg->Et K mg)
  : K.lookup T=none/\pL K mg T/\∃ fd:FuncData,(∀(s:Shared)(v:Value),BindsTo s fd ⟨[v],[]⟩ [("script", v)])/\∀ base:Heap,K.In base->base.Ns mainGlobals mg->BMn base mg->FnOk l.prog w K mg base (CX1 l.prog w) 28 fa fd ["script"] (zPX K mg):=by
 have e:=hfa.symm.trans (Q8 X G a65);cases e;have B:Bt mg:=⟨Vg X G z_abs,Vg X G z_sorted,Vg X G z_range,Vg X G z_len,Vg X G z_sum,Vg X G z_zip,Vg X G z_tuple,Vg X G z_min,Vg X G z_reversed,Vg X G z_max,Vg X G z_int⟩;have C:Ct K mg:=CC h mg X G;have R:Rt K mg:=RR h mg X G;have ET:Et K mg:=EE h mg X G;have hT:pL K mg T:=⟨f11,_,_,_,_,cR,Q8 X G a11,l11,rfl,fun h X=>PySem.W.codeHd_of_K X tq⟩
 refine⟨tn,hT,?_⟩
 refine⟨PySem.W.fnOf "law" "law" (jU vB) (fR vB) (aI vB) .none kV65 dc65 pm65 an65 cd65 ct65,fun s v=>.of_eq rfl,fun base _ _ hB=>?_⟩
 obtain⟨_,_,F0⟩:=fk X G d0 ["one", "two"] fun _ _ _ _ _ _ us hl=>by obtain⟨_,_,rfl⟩:=L3.ln2 hl;rfl
 have c_common_divisor:=qJ (P:=l.prog) (w:=w) (base:=base) (k:=0) F0 B KT C R ET;obtain⟨_,_,F2⟩:=fk X G d2 ["number"] fun _ _ _ _ _ _ us hl=>by obtain⟨_,rfl⟩:=L3.ln1 hl;rfl
 have c_whole:=zJP (P:=l.prog) (w:=w) (base:=base) (k:=0) F2 B KT C R ET;obtain⟨_,_,F7⟩:=fk X G d7 ["one", "two"] fun _ _ _ _ _ _ us hl=>by obtain⟨_,_,rfl⟩:=L3.ln2 hl;rfl
 have c_less:=zMn (P:=l.prog) (w:=w) (base:=base) (k:=0) F7 B KT C R ET;have F11:Fn K mg "ranked" iJ ["some"] _ _:=⟨xF (st:=iJ) l11 c11 k11,(xF (st:=iJ) l11 c11 k11).binds (ps:=["some"]) fun _ _ _ _ _ _ us hl=>by obtain⟨_,rfl⟩:=L3.ln1 hl;rfl,k11,Q8 X G a11⟩
 have c_ranked:=zGN (P:=l.prog) (w:=w) (base:=base) (k:=0) F11 B KT C R ET hT hB;obtain⟨_,_,F13⟩:=fk X G d13 ["way"] fun _ _ _ _ _ _ us hl=>by obtain⟨_,rfl⟩:=L3.ln1 hl;rfl
 have c_refuse_way:=zAu (P:=l.prog) (w:=w) (base:=base) (k:=0) F13 B KT C R ET;obtain⟨_,_,F14⟩:=fk X G d14 ["claims"] fun _ _ _ _ _ _ us hl=>by obtain⟨_,rfl⟩:=L3.ln1 hl;rfl
 have c_refuse_claims:=sL (P:=l.prog) (w:=w) (base:=base) (k:=0) F14 B KT C R ET;obtain⟨_,_,F15⟩:=fk X G d15 ["way", "weights", "many"] fun _ _ _ _ _ _ us hl=>by obtain⟨_,_,_,rfl⟩:=L3.ln3 hl;rfl
 have c_refuse_weights:=qW (P:=l.prog) (w:=w) (base:=base) (k:=0) F15 B KT C R ET;obtain⟨_,_,F24⟩:=fk X G d24 ["custom"] fun _ _ _ _ _ _ us hl=>by obtain⟨_,rfl⟩:=L3.ln1 hl;rfl
 have c_is_boat:=zFM (P:=l.prog) (w:=w) (base:=base) (k:=0) F24 B KT C R ET;obtain⟨_,_,F25⟩:=fk X G d25 ["custom"] fun _ _ _ _ _ _ us hl=>by obtain⟨_,rfl⟩:=L3.ln1 hl;rfl
 have c_way_of:=zGR (P:=l.prog) (w:=w) (base:=base) (k:=0) F25 B KT C R ET;obtain⟨_,_,F26⟩:=fk X G d26 ["custom"] fun _ _ _ _ _ _ us hl=>by obtain⟨_,rfl⟩:=L3.ln1 hl;rfl
 have c_weights_of:=zV (P:=l.prog) (w:=w) (base:=base) (k:=0) F26 B KT C R ET;obtain⟨_,_,F36⟩:=fk X G d36 ["line"] fun _ _ _ _ _ _ us hl=>by obtain⟨_,rfl⟩:=L3.ln1 hl;rfl
 have c_length:=zIo (P:=l.prog) (w:=w) (base:=base) (k:=0) F36 B KT C R ET;obtain⟨_,_,F37⟩:=fk X G d37 ["line"] fun _ _ _ _ _ _ us hl=>by obtain⟨_,rfl⟩:=L3.ln1 hl;rfl
 have c_height:=zHM (P:=l.prog) (w:=w) (base:=base) (k:=0) F37 B KT C R ET;obtain⟨_,_,F43⟩:=fk X G d43 ["line"] fun _ _ _ _ _ _ us hl=>by obtain⟨_,rfl⟩:=L3.ln1 hl;rfl
 have c_places:=zHs (P:=l.prog) (w:=w) (base:=base) (k:=0) F43 B KT C R ET;obtain⟨_,_,F55⟩:=fk X G d55 ["script", "k"] fun _ _ _ _ _ _ us hl=>by obtain⟨_,_,rfl⟩:=L3.ln2 hl;rfl
 have c_law_cell_at:=wG (P:=l.prog) (w:=w) (base:=base) (k:=0) F55 B KT C R ET;obtain⟨_,_,F56⟩:=fk X G d56 ["top", "bottom"] fun _ _ _ _ _ _ us hl=>by obtain⟨_,_,rfl⟩:=L3.ln2 hl;rfl
 have c_law_made:=zCD (P:=l.prog) (w:=w) (base:=base) (k:=0) F56 B KT C R ET;obtain⟨_,_,F59⟩:=fk X G d59 ["one", "two"] fun _ _ _ _ _ _ us hl=>by obtain⟨_,_,rfl⟩:=L3.ln2 hl;rfl
 have c_law_less:=zCX (P:=l.prog) (w:=w) (base:=base) (k:=0) F59 B KT C R ET;obtain⟨_,_,F60⟩:=fk X G d60 ["cell", "k"] fun _ _ _ _ _ _ us hl=>by obtain⟨_,_,rfl⟩:=L3.ln2 hl;rfl
 have c_law_mix:=zFu (P:=l.prog) (w:=w) (base:=base) (k:=0) F60 B KT C R ET;obtain⟨_,_,F61⟩:=fk X G d61 ["kids", "mix", "plan"] fun _ _ _ _ _ _ us hl=>by obtain⟨_,_,_,rfl⟩:=L3.ln3 hl;rfl
 have c_law_knot:=zDA (P:=l.prog) (w:=w) (base:=base) (k:=0) F61 B KT C R ET;obtain⟨_,_,F1⟩:=fk X G d1 ["top", "bottom"] fun _ _ _ _ _ _ us hl=>by obtain⟨_,_,rfl⟩:=L3.ln2 hl;rfl
 have c_made:=zNk (P:=l.prog) (w:=w) (base:=base) (k:=1) F1 B KT C R ET (c_common_divisor:=c_common_divisor.mono (by decide))
 obtain⟨_,_,F8⟩:=fk X G d8 ["one", "two"] fun _ _ _ _ _ _ us hl=>by obtain⟨_,_,rfl⟩:=L3.ln2 hl;rfl
 have c_lesser:=zIn (P:=l.prog) (w:=w) (base:=base) (k:=1) F8 B KT C R ET (c_less:=c_less.mono (by decide))
 obtain⟨_,_,F9⟩:=fk X G d9 ["amount", "most"] fun _ _ _ _ _ _ us hl=>by obtain⟨_,_,rfl⟩:=L3.ln2 hl;rfl
 have c_is_outside:=zE (P:=l.prog) (w:=w) (base:=base) (k:=1) F9 B KT C R ET (c_less:=c_less.mono (by decide))
 obtain⟨_,_,F12⟩:=fk X G d12 ["way", "weights", "claims"] fun _ _ _ _ _ _ us hl=>by obtain⟨_,_,_,rfl⟩:=L3.ln3 hl;rfl
 have c_looked:=zGd (P:=l.prog) (w:=w) (base:=base) (k:=1) F12 B KT C R ET (c_refuse_way:=c_refuse_way.mono (by decide)) (c_refuse_claims:=c_refuse_claims.mono (by decide)) (c_refuse_weights:=c_refuse_weights.mono (by decide))
 obtain⟨_,_,F16⟩:=fk X G d16 ["way"] fun _ _ _ _ _ _ us hl=>by obtain⟨_,rfl⟩:=L3.ln1 hl;rfl
 have c_contrary_way:=tI (P:=l.prog) (w:=w) (base:=base) (k:=1) F16 B KT C R ET (c_refuse_way:=c_refuse_way.mono (by decide))
 obtain⟨_,_,F27⟩:=fk X G d27 ["custom"] fun _ _ _ _ _ _ us hl=>by obtain⟨_,rfl⟩:=L3.ln1 hl;rfl
 have c_kids_of:=zFD (P:=l.prog) (w:=w) (base:=base) (k:=1) F27 B KT C R ET (c_is_boat:=c_is_boat.mono (by decide))
 obtain⟨_,_,F34⟩:=fk X G d34 ["points"] fun _ _ _ _ _ _ us hl=>by obtain⟨_,rfl⟩:=L3.ln1 hl;rfl
 have c_refuse_bad:=yO (P:=l.prog) (w:=w) (base:=base) (k:=1) F34 B KT C R ET (c_less:=c_less.mono (by decide))
 obtain⟨_,_,F40⟩:=fk X G d40 ["line", "axis", "amount"] fun _ _ _ _ _ _ us hl=>by obtain⟨_,_,_,rfl⟩:=L3.ln3 hl;rfl
 have c_first_reaching:=qI (P:=l.prog) (w:=w) (base:=base) (k:=1) F40 B KT C R ET (c_less:=c_less.mono (by decide))
 obtain⟨_,_,F44⟩:=fk X G d44 ["one", "two"] fun _ _ _ _ _ _ us hl=>by obtain⟨_,_,rfl⟩:=L3.ln2 hl;rfl
 have c_merged:=zIM (P:=l.prog) (w:=w) (base:=base) (k:=1) F44 B KT C R ET (c_less:=c_less.mono (by decide))
 obtain⟨_,_,F48⟩:=fk X G d48 ["claims"] fun _ _ _ _ _ _ us hl=>by obtain⟨_,rfl⟩:=L3.ln1 hl;rfl
 have c_row_joints:=yY (P:=l.prog) (w:=w) (base:=base) (k:=1) F48 B KT C R ET (c_whole:=c_whole.mono (by decide))
 obtain⟨_,_,F51⟩:=fk X G d51 ["joints"] fun _ _ _ _ _ _ us hl=>by obtain⟨_,rfl⟩:=L3.ln1 hl;rfl
 have c_without_doubles:=pM (P:=l.prog) (w:=w) (base:=base) (k:=1) F51 B KT C R ET (c_less:=c_less.mono (by decide))
 obtain⟨_,_,F57⟩:=fk X G d57 ["one", "two"] fun _ _ _ _ _ _ us hl=>by obtain⟨_,_,rfl⟩:=L3.ln2 hl;rfl
 have c_law_plus:=zDn (P:=l.prog) (w:=w) (base:=base) (k:=1) F57 B KT C R ET (c_law_made:=c_law_made.mono (by decide))
 obtain⟨_,_,F58⟩:=fk X G d58 ["one", "two"] fun _ _ _ _ _ _ us hl=>by obtain⟨_,_,rfl⟩:=L3.ln2 hl;rfl
 have c_law_times:=zBW (P:=l.prog) (w:=w) (base:=base) (k:=1) F58 B KT C R ET (c_law_made:=c_law_made.mono (by decide))
 obtain⟨_,_,F3⟩:=fk X G d3 ["one", "two"] fun _ _ _ _ _ _ us hl=>by obtain⟨_,_,rfl⟩:=L3.ln2 hl;rfl
 have c_plus:=zMZ (P:=l.prog) (w:=w) (base:=base) (k:=2) F3 B KT C R ET (c_made:=c_made.mono (by decide))
 obtain⟨_,_,F4⟩:=fk X G d4 ["one", "two"] fun _ _ _ _ _ _ us hl=>by obtain⟨_,_,rfl⟩:=L3.ln2 hl;rfl
 have c_minus:=zKt (P:=l.prog) (w:=w) (base:=base) (k:=2) F4 B KT C R ET (c_made:=c_made.mono (by decide))
 obtain⟨_,_,F5⟩:=fk X G d5 ["one", "two"] fun _ _ _ _ _ _ us hl=>by obtain⟨_,_,rfl⟩:=L3.ln2 hl;rfl
 have c_times:=zJn (P:=l.prog) (w:=w) (base:=base) (k:=2) F5 B KT C R ET (c_made:=c_made.mono (by decide))
 obtain⟨_,_,F6⟩:=fk X G d6 ["one", "two"] fun _ _ _ _ _ _ us hl=>by obtain⟨_,_,rfl⟩:=L3.ln2 hl;rfl
 have c_over:=zMD (P:=l.prog) (w:=w) (base:=base) (k:=2) F6 B KT C R ET (c_made:=c_made.mono (by decide))
 obtain⟨_,_,F10⟩:=fk X G d10 ["amount", "most"] fun _ _ _ _ _ _ us hl=>by obtain⟨_,_,rfl⟩:=L3.ln2 hl;rfl
 have c_refuse_outside:=rK (P:=l.prog) (w:=w) (base:=base) (k:=2) F10 B KT C R ET (c_is_outside:=c_is_outside.mono (by decide))
 obtain⟨_,_,F21⟩:=fk X G d21 ["weights", "claims"] fun _ _ _ _ _ _ us hl=>by obtain⟨_,_,rfl⟩:=L3.ln2 hl;rfl
 have c_levels_of:=zCo (P:=l.prog) (w:=w) (base:=base) (k:=2) F21 B KT C R ET (c_made:=c_made.mono (by decide))
 obtain⟨_,_,F19⟩:=fk X G d19 ["claims", "catch"] fun _ _ _ _ _ _ us hl=>by obtain⟨_,_,rfl⟩:=L3.ln2 hl;rfl
 have c_row_dealt:=zCd (P:=l.prog) (w:=w) (base:=base) (k:=3) F19 B KT C R ET (c_lesser:=c_lesser.mono (by decide)) (c_minus:=c_minus.mono (by decide)) (c_whole:=c_whole.mono (by decide))
 obtain⟨_,_,F20⟩:=fk X G d20 ["weights", "claims", "catch"] fun _ _ _ _ _ _ us hl=>by obtain⟨_,_,_,rfl⟩:=L3.ln3 hl;rfl
 have c_even_dealt:=zAC (P:=l.prog) (w:=w) (base:=base) (k:=3) F20 B KT C R ET (c_ranked:=c_ranked.mono (by decide)) (c_levels_of:=c_levels_of.mono (by decide)) (c_over:=c_over.mono (by decide)) (c_lesser:=c_lesser.mono (by decide)) (c_minus:=c_minus.mono (by decide)) (c_times:=c_times.mono (by decide)) (c_whole:=c_whole.mono (by decide))
 obtain⟨_,_,F22⟩:=fk X G d22 ["claims", "catch"] fun _ _ _ _ _ _ us hl=>by obtain⟨_,_,rfl⟩:=L3.ln2 hl;rfl
 have c_part_dealt:=zAs (P:=l.prog) (w:=w) (base:=base) (k:=3) F22 B KT C R ET (c_over:=c_over.mono (by decide)) (c_whole:=c_whole.mono (by decide)) (c_times:=c_times.mono (by decide))
 obtain⟨_,_,F35⟩:=fk X G d35 ["ahead", "point", "later"] fun _ _ _ _ _ _ us hl=>by obtain⟨_,_,_,rfl⟩:=L3.ln3 hl;rfl
 have c_is_between:=zAo (P:=l.prog) (w:=w) (base:=base) (k:=3) F35 B KT C R ET (c_minus:=c_minus.mono (by decide)) (c_times:=c_times.mono (by decide))
 obtain⟨_,_,F41⟩:=fk X G d41 ["line", "axis", "amount"] fun _ _ _ _ _ _ us hl=>by obtain⟨_,_,_,rfl⟩:=L3.ln3 hl;rfl
 have c_met:=zOt (P:=l.prog) (w:=w) (base:=base) (k:=3) F41 B KT C R ET (c_first_reaching:=c_first_reaching.mono (by decide)) (c_over:=c_over.mono (by decide)) (c_plus:=c_plus.mono (by decide)) (c_minus:=c_minus.mono (by decide)) (c_times:=c_times.mono (by decide))
 obtain⟨_,_,F49⟩:=fk X G d49 ["weights", "claims"] fun _ _ _ _ _ _ us hl=>by obtain⟨_,_,rfl⟩:=L3.ln2 hl;rfl
 have c_even_joints:=wX (P:=l.prog) (w:=w) (base:=base) (k:=3) F49 B KT C R ET (c_levels_of:=c_levels_of.mono (by decide)) (c_ranked:=c_ranked.mono (by decide)) (c_plus:=c_plus.mono (by decide)) (c_whole:=c_whole.mono (by decide)) (c_times:=c_times.mono (by decide))
 obtain⟨_,_,F50⟩:=fk X G d50 ["joints", "most"] fun _ _ _ _ _ _ us hl=>by obtain⟨_,_,rfl⟩:=L3.ln2 hl;rfl
 have c_mirrored:=zDx (P:=l.prog) (w:=w) (base:=base) (k:=3) F50 B KT C R ET (c_minus:=c_minus.mono (by decide))
 obtain⟨_,_,F23⟩:=fk X G d23 ["claims", "catch"] fun _ _ _ _ _ _ us hl=>by obtain⟨_,_,rfl⟩:=L3.ln2 hl;rfl
 have c_half_dealt:=yD (P:=l.prog) (w:=w) (base:=base) (k:=4) F23 B KT C R ET (c_times:=c_times.mono (by decide)) (c_even_dealt:=c_even_dealt.mono (by decide)) (c_plus:=c_plus.mono (by decide))
 obtain⟨_,_,F33⟩:=fk X G d33 ["points"] fun _ _ _ _ _ _ us hl=>by obtain⟨_,rfl⟩:=L3.ln1 hl;rfl
 have c_line_of:=zFi (P:=l.prog) (w:=w) (base:=base) (k:=4) F33 B KT C R ET (c_refuse_bad:=c_refuse_bad.mono (by decide)) (c_is_between:=c_is_between.mono (by decide))
 obtain⟨_,_,F38⟩:=fk X G d38 ["line", "x"] fun _ _ _ _ _ _ us hl=>by obtain⟨_,_,rfl⟩:=L3.ln2 hl;rfl
 have c_value:=zKm (P:=l.prog) (w:=w) (base:=base) (k:=4) F38 B KT C R ET (c_refuse_outside:=c_refuse_outside.mono (by decide)) (c_met:=c_met.mono (by decide)) (c_length:=c_length.mono (by decide))
 obtain⟨_,_,F39⟩:=fk X G d39 ["line", "y"] fun _ _ _ _ _ _ us hl=>by obtain⟨_,_,rfl⟩:=L3.ln2 hl;rfl
 have c_stretch:=zFQ (P:=l.prog) (w:=w) (base:=base) (k:=4) F39 B KT C R ET (c_refuse_outside:=c_refuse_outside.mono (by decide)) (c_met:=c_met.mono (by decide)) (c_height:=c_height.mono (by decide)) (c_first_reaching:=c_first_reaching.mono (by decide))
 obtain⟨_,_,F42⟩:=fk X G d42 ["one", "two"] fun _ _ _ _ _ _ us hl=>by obtain⟨_,_,rfl⟩:=L3.ln2 hl;rfl
 have c_behind:=zHV (P:=l.prog) (w:=w) (base:=base) (k:=5) F42 B KT C R ET (c_merged:=c_merged.mono (by decide)) (c_line_of:=c_line_of.mono (by decide)) (c_length:=c_length.mono (by decide)) (c_height:=c_height.mono (by decide)) (c_met:=c_met.mono (by decide)) (c_places:=c_places.mono (by decide)) (c_value:=c_value.mono (by decide))
 obtain⟨_,_,F46⟩:=fk X G d46 ["joints", "dealings", "spot"] fun _ _ _ _ _ _ us hl=>by obtain⟨_,_,_,rfl⟩:=L3.ln3 hl;rfl
 have c_line_at:=zFJ (P:=l.prog) (w:=w) (base:=base) (k:=5) F46 B KT C R ET (c_line_of:=c_line_of.mono (by decide))
 obtain⟨_,_,F53⟩:=fk X G d53 ["claim"] fun _ _ _ _ _ _ us hl=>by obtain⟨_,rfl⟩:=L3.ln1 hl;rfl
 have c_straight:=zDE (P:=l.prog) (w:=w) (base:=base) (k:=5) F53 B KT C R ET (c_line_of:=c_line_of.mono (by decide)) (c_whole:=c_whole.mono (by decide))
 obtain⟨_,_,F47⟩:=fk X G d47 ["way", "weights", "claims"] fun _ _ _ _ _ _ us hl=>by obtain⟨_,_,_,rfl⟩:=L3.ln3 hl;rfl
 have c_joints_of:=rT (P:=l.prog) (w:=w) (base:=base) (k:=4) F47 B KT C R ET (c_whole:=c_whole.mono (by decide)) (c_mirrored:=c_mirrored.mono (by decide)) (c_row_joints:=c_row_joints.mono (by decide)) (c_even_joints:=c_even_joints.mono (by decide)) (c_times:=c_times.mono (by decide)) (c_contrary_way:=c_contrary_way.mono (by decide)) 2
 obtain⟨_,_,F18⟩:=fk X G d18 ["way", "weights", "claims", "catch"] fun _ _ _ _ _ _ us hl=>by obtain⟨_,_,_,_,rfl⟩:=L3.ln4 hl;rfl
 have c_rightly_dealt:=lI (P:=l.prog) (w:=w) (base:=base) (k:=5) F18 B KT C R ET (c_whole:=c_whole.mono (by decide)) (c_row_dealt:=c_row_dealt.mono (by decide)) (c_even_dealt:=c_even_dealt.mono (by decide)) (c_part_dealt:=c_part_dealt.mono (by decide)) (c_half_dealt:=c_half_dealt.mono (by decide)) (c_minus:=c_minus.mono (by decide)) (c_less:=c_less.mono (by decide)) (c_plus:=c_plus.mono (by decide)) 2
 obtain⟨_,_,F17⟩:=fk X G d17 ["way", "weights", "claims", "catch"] fun _ _ _ _ _ _ us hl=>by obtain⟨_,_,_,_,rfl⟩:=L3.ln4 hl;rfl
 have c_dealt:=zJr (P:=l.prog) (w:=w) (base:=base) (k:=8) F17 B KT C R ET (c_looked:=c_looked.mono (by decide)) (c_refuse_outside:=c_refuse_outside.mono (by decide)) (c_rightly_dealt:=c_rightly_dealt.mono (by decide)) (c_whole:=c_whole.mono (by decide))
 obtain⟨_,_,F45⟩:=fk X G d45 ["way", "weights", "claims"] fun _ _ _ _ _ _ us hl=>by obtain⟨_,_,_,rfl⟩:=L3.ln3 hl;rfl
 have c_way_lines:=zCm (P:=l.prog) (w:=w) (base:=base) (k:=8) F45 B KT C R ET (c_looked:=c_looked.mono (by decide)) (c_without_doubles:=c_without_doubles.mono (by decide)) (c_joints_of:=c_joints_of.mono (by decide)) (c_rightly_dealt:=c_rightly_dealt.mono (by decide)) (c_line_at:=c_line_at.mono (by decide))
 obtain⟨_,_,F62⟩:=fk X G d62 ["custom"] fun _ _ _ _ _ _ us hl=>by obtain⟨_,rfl⟩:=L3.ln1 hl;rfl
 have c_law_deep:=tN (P:=l.prog) (w:=w) (base:=base) (k:=0) F62 B KT C R ET  10;obtain⟨_,_,F64⟩:=fk X G d64 ["custom"] fun _ _ _ _ _ _ us hl=>by obtain⟨_,rfl⟩:=L3.ln1 hl;rfl
 have c_law_boats:=sA (P:=l.prog) (w:=w) (base:=base) (k:=0) F64 B KT C R ET  10;obtain⟨_,_,F63⟩:=fk X G d63 ["cells", "plan", "most"] fun _ _ _ _ _ _ us hl=>by obtain⟨_,_,_,rfl⟩:=L3.ln3 hl;rfl
 have c_law_custom:=zN (P:=l.prog) (w:=w) (base:=base) (k:=11) F63 B KT C R ET (c_law_knot:=c_law_knot.mono (by decide)) (c_law_mix:=c_law_mix.mono (by decide)) (c_law_deep:=c_law_deep.mono (by decide))
 obtain⟨_,_,F28⟩:=fk X G d28 ["custom"] fun _ _ _ _ _ _ us hl=>by obtain⟨_,rfl⟩:=L3.ln1 hl;rfl
 have c_claims_of:=rV (P:=l.prog) (w:=w) (base:=base) (k:=2) F28 B KT C R ET (c_is_boat:=c_is_boat.mono (by decide)) (c_kids_of:=c_kids_of.mono (by decide)) 10
 obtain⟨_,_,F29⟩:=fk X G d29 ["custom"] fun _ _ _ _ _ _ us hl=>by obtain⟨_,rfl⟩:=L3.ln1 hl;rfl
 have c_claim_of:=zDz (P:=l.prog) (w:=w) (base:=base) (k:=13) F29 B KT C R ET (c_claims_of:=c_claims_of.mono (by decide))
 obtain⟨_,_,F30⟩:=fk X G d30 ["custom"] fun _ _ _ _ _ _ us hl=>by obtain⟨_,rfl⟩:=L3.ln1 hl;rfl
 have c_kid_claims:=yS (P:=l.prog) (w:=w) (base:=base) (k:=14) F30 B KT C R ET (c_claim_of:=c_claim_of.mono (by decide)) (c_kids_of:=c_kids_of.mono (by decide))
 obtain⟨_,_,F32⟩:=fk X G d32 ["custom", "catch"] fun _ _ _ _ _ _ us hl=>by obtain⟨_,_,rfl⟩:=L3.ln2 hl;rfl
 have c_dealt_on:=vM (P:=l.prog) (w:=w) (base:=base) (k:=15) F32 B KT C R ET (c_is_boat:=c_is_boat.mono (by decide)) (c_dealt:=c_dealt.mono (by decide)) (c_way_of:=c_way_of.mono (by decide)) (c_weights_of:=c_weights_of.mono (by decide)) (c_kid_claims:=c_kid_claims.mono (by decide)) (c_kids_of:=c_kids_of.mono (by decide)) 10
 obtain⟨_,_,F52⟩:=fk X G d52 ["custom"] fun _ _ _ _ _ _ us hl=>by obtain⟨_,rfl⟩:=L3.ln1 hl;rfl
 have c_lines_of:=vJ (P:=l.prog) (w:=w) (base:=base) (k:=15) F52 B KT C R ET (c_is_boat:=c_is_boat.mono (by decide)) (c_way_lines:=c_way_lines.mono (by decide)) (c_way_of:=c_way_of.mono (by decide)) (c_weights_of:=c_weights_of.mono (by decide)) (c_kid_claims:=c_kid_claims.mono (by decide)) (c_kids_of:=c_kids_of.mono (by decide)) (c_straight:=c_straight.mono (by decide)) (c_claim_of:=c_claim_of.mono (by decide)) (c_behind:=c_behind.mono (by decide)) 10
 obtain⟨_,_,F31⟩:=fk X G d31 ["custom", "catch"] fun _ _ _ _ _ _ us hl=>by obtain⟨_,_,rfl⟩:=L3.ln2 hl;rfl
 have c_shares:=zIv (P:=l.prog) (w:=w) (base:=base) (k:=26) F31 B KT C R ET (c_refuse_outside:=c_refuse_outside.mono (by decide)) (c_dealt_on:=c_dealt_on.mono (by decide)) (c_whole:=c_whole.mono (by decide)) (c_claim_of:=c_claim_of.mono (by decide))
 obtain⟨_,_,F54⟩:=fk X G d54 ["custom", "boat", "amount"] fun _ _ _ _ _ _ us hl=>by obtain⟨_,_,_,rfl⟩:=L3.ln3 hl;rfl
 have c_catches_of:=yI (P:=l.prog) (w:=w) (base:=base) (k:=26) F54 B KT C R ET (c_lines_of:=c_lines_of.mono (by decide)) (c_stretch:=c_stretch.mono (by decide))
 have F65:Fn K mg "law" vB ["script"] _ _:=⟨xF (st:=vB) l65 c65 k65,(xF (st:=vB) l65 c65 k65).binds (ps:=["script"]) fun _ _ _ _ _ _ us hl=>by obtain⟨_,rfl⟩:=L3.ln1 hl;rfl,k65,Q8 X G a65⟩
 have c_law:=zPM (P:=l.prog) (w:=w) (base:=base) (k:=27) F65 B KT C R ET (c_law_cell_at:=c_law_cell_at.mono (by decide)) (c_law_custom:=c_law_custom.mono (by decide)) (c_law_boats:=c_law_boats.mono (by decide)) (c_law_mix:=c_law_mix.mono (by decide)) (c_law_made:=c_law_made.mono (by decide)) (c_catches_of:=c_catches_of.mono (by decide)) (c_law_times:=c_law_times.mono (by decide)) (c_law_less:=c_law_less.mono (by decide)) (c_law_plus:=c_law_plus.mono (by decide)) (c_shares:=c_shares.mono (by decide))
 exact zMm c_law law_true
end Lw
open PySem PySem.W PyProof.Rows
local macro_rules | `(tactic| walk_at "fk")=>`(tactic| (refine' Lw.fkm ?a ?l ?c ?k;(case a=>k_is);(case l=>k_is);(case c=>k_is);(case k=>k_is)))
set_option maxRecDepth 100000 in
set_option maxHeartbeats 0 in
theorem PySem.Challenge.cw_catchhall_k33_whole_amount_and_catch_holds : PySem.Challenge.rw_catchhall_k33_whole_amount_and_catch.Holds := by
 w_on;o_law;k_head;(case hw=>w_witness2)
 k_fill
 refine L3.zQA (l:=PySem.Challenge.rw_catchhall_k33_whole_amount_and_catch) (k:=28) rfl rfl ⟨rfl,by decide,by decide⟩ (fun w h Y=>PySem.W.km_in_of Y) (fun w h Y=>PySem.W.km_tabs_of Y _ (.head _)) ?F
 case F=>
  intro w mg fa h KX G hmg
  refine' Lw.zOx KX G hmg ?d0 ?d1 ?d2 ?d3 ?d4 ?d5 ?d6 ?d7 ?d8 ?d9 ?d10 ?a11 ?l11 ?c11 ?k11 ?tq ?tn ?d12 ?d13 ?d14 ?d15 ?d16 ?d17 ?d18 ?d19 ?d20 ?d21 ?d22 ?d23 ?d24 ?d25 ?d26 ?d27 ?d28 ?d29 ?d30 ?d31 ?d32 ?d33 ?d34 ?d35 ?d36 ?d37 ?d38 ?d39 ?d40 ?d41 ?d42 ?d43 ?d44 ?d45 ?d46 ?d47 ?d48 ?d49 ?d50 ?d51 ?d52 ?d53 ?d54 ?d55 ?d56 ?d57 ?d58 ?d59 ?d60 ?d61 ?d62 ?d63 ?d64 ?a65 ?l65 ?c65 ?k65 ?z_abs ?z_sorted ?z_range ?z_len ?z_sum ?z_zip ?z_tuple ?z_min ?z_reversed ?z_max ?z_int ?KT ?CC ?RR ?EE
  (case a11=>k_is)
  (case l11=>k_is)
  (case c11=>k_is)
  (case k11=>k_is)
  (case tq=>first | k_is | kernel_rfl | kn_code | decide +kernel)
  (case tn=>first | k_is | kernel_rfl | kn_code | decide +kernel)
  (case a65=>k_is)
  (case l65=>k_is)
  (case c65=>k_is)
  (case k65=>k_is)
  (case d0=>walk_at "fk")
  (case d1=>walk_at "fk")
  (case d2=>walk_at "fk")
  (case d3=>walk_at "fk")
  (case d4=>walk_at "fk")
  (case d5=>walk_at "fk")
  (case d6=>walk_at "fk")
  (case d7=>walk_at "fk")
  (case d8=>walk_at "fk")
  (case d9=>walk_at "fk")
  (case d10=>walk_at "fk")
  (case d12=>walk_at "fk")
  (case d13=>walk_at "fk")
  (case d14=>walk_at "fk")
  (case d15=>walk_at "fk")
  (case d16=>walk_at "fk")
  (case d17=>walk_at "fk")
  (case d18=>walk_at "fk")
  (case d19=>walk_at "fk")
  (case d20=>walk_at "fk")
  (case d21=>walk_at "fk")
  (case d22=>walk_at "fk")
  (case d23=>walk_at "fk")
  (case d24=>walk_at "fk")
  (case d25=>walk_at "fk")
  (case d26=>walk_at "fk")
  (case d27=>walk_at "fk")
  (case d28=>walk_at "fk")
  (case d29=>walk_at "fk")
  (case d30=>walk_at "fk")
  (case d31=>walk_at "fk")
  (case d32=>walk_at "fk")
  (case d33=>walk_at "fk")
  (case d34=>walk_at "fk")
  (case d35=>walk_at "fk")
  (case d36=>walk_at "fk")
  (case d37=>walk_at "fk")
  (case d38=>walk_at "fk")
  (case d39=>walk_at "fk")
  (case d40=>walk_at "fk")
  (case d41=>walk_at "fk")
  (case d42=>walk_at "fk")
  (case d43=>walk_at "fk")
  (case d44=>walk_at "fk")
  (case d45=>walk_at "fk")
  (case d46=>walk_at "fk")
  (case d47=>walk_at "fk")
  (case d48=>walk_at "fk")
  (case d49=>walk_at "fk")
  (case d50=>walk_at "fk")
  (case d51=>walk_at "fk")
  (case d52=>walk_at "fk")
  (case d53=>walk_at "fk")
  (case d54=>walk_at "fk")
  (case d55=>walk_at "fk")
  (case d56=>walk_at "fk")
  (case d57=>walk_at "fk")
  (case d58=>walk_at "fk")
  (case d59=>walk_at "fk")
  (case d60=>walk_at "fk")
  (case d61=>walk_at "fk")
  (case d62=>walk_at "fk")
  (case d63=>walk_at "fk")
  (case d64=>walk_at "fk")
  (case z_abs=>k_is)
  (case z_sorted=>k_is)
  (case z_range=>k_is)
  (case z_len=>k_is)
  (case z_sum=>k_is)
  (case z_zip=>k_is)
  (case z_tuple=>k_is)
  (case z_min=>k_is)
  (case z_reversed=>k_is)
  (case z_max=>k_is)
  (case z_int=>k_is)
  (case KT=>refine' ⟨⟩<;>(first | kit_is | (show _=some true;kit_is) | (show _=some false;kit_is) | rfl | decide +kernel))
  (case CC=>
   intro h mg X G
   refine' Lw.zQg X G ?n_ACROSS ?n_BOAT ?n_HALF ?pHALF0_l ?n_NOUGHT ?pNOUGHT1_l ?n_UP ?n_WEIGHTED ?pWEIGHTED2_l ?n_CONTRARY ?aX<;>try first | k_is | kit_is | k_exc | rfl | decide +kernel | kernel_rfl)
  (case RR=>
   intro h mg X G
   refine' Lw.zQQ X G ?n_BadClaim ?x_BadClaim ?n_BadLine ?x_BadLine ?n_BadWay ?x_BadWay ?n_BadWeights ?x_BadWeights ?n_NoBoat ?x_NoBoat ?n_NoFraction ?x_NoFraction ?n_Outside ?x_Outside ?n_Unlike ?x_Unlike<;>try first | k_is | kit_is | k_exc | rfl | decide +kernel | kernel_rfl)
  (case EE=>
   intro h mg X G
   refine' Lw.zQS X G )
