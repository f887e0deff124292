import PyProof.Rows.All
import Wide.All
import OpenK.AllK
import Wide.FinOn
import Lean
import PyProof.EqAt
import PyProof.EqKinds
import PyProof.TupleCall
import PyProof.NeKinds
import KE.KRevIter
import PyProof.Rows.SumAny
import PySem.Challenge.RW_catchhall_k29_lines_and_shares
noncomputable section
set_option Elab.async false
set_option linter.all false
set_option maxRecDepth 100000
def Qb:=@List.mem_cons_self
def Qc:=@List.mem_cons_of_mem
def Qd:=@List.mem_cons
def Qe:=@List.length_map
def Qf:=@Rat.le_of_lt
def Qg:=@Nat.le_refl
def Qh:=@Rat.le_refl
def Qi:=@List.mem_of_getElem?
def Qj:=@List.mem_range
def Qk:=@List.size_toArray
def Ql:=@List.getElem?_eq_getElem
def Qm:=@List.length_append
def Qn:=@List.length_cons
def Qo:=@List.mem_map
def Qp:=@Nat.lt_of_lt_of_le
def Qq:=@List.pairwise_cons
def Qr:=@List.getElem?_map
def Qs:=@List.map_cons
def Qt:=@Nat.ne_of_lt
def Qu:=@List.mem_singleton
def Qv:=@List.map_map
def Qw:=@PySem.boot_len
def Qx:=@List.getD_eq_getElem?_getD
def Qy:=@List.length_range
def Qz:=@List.mem_append_right
def QA:=@List.getElem?_eq_none
def QB:=@Rat.le_trans
def QC:=@List.getElem?_eq_some_iff
def QD:=@Nat.le_trans
def QE:=@List.length_set
def QF:=@List.sum_cons
def QG:=@List.getElem?_set_ne
def QH:=@List.map_append
def QI:=@List.mem_append
def QJ:=@List.getElem?_set_self
def QK:=@List.append_nil
def QL:=@Rat.div_def
def QM:=@Int.emod_nonneg
def QN:=@Int.emod_lt_of_pos
def QO:=@Rat.intCast_mul
def QP:=@Option.some.inj
def QR:=@List.getElem?_append_left
def QS:=@List.getElem?_append_right
def QT:=@Nat.lt_succ_self
def QU:=@Rat.intCast_add
def QV:=@PySem.W.mg_none_of
def QW:=@Int.mul_one
def QX:=@List.length_drop
def QY:=@List.append_assoc
def QZ:=@Nat.zero_le
def Q2:=@Int.toNat_natCast
def Q3:=@Rat.mul_le_mul_of_nonneg_right
def Q4:=@List.getLast?_eq_getElem?
def Q5:=@List.length_reverse
def Q6:=@List.map_congr_left
def Q7:=@Rat.not_lt
def Q8:=@Rat.div_mul_cancel
def Q9:=@PySem.W.mg_of
def Va:=@Bool.and_eq_true
def Vb:=@Rat.num_divInt_den
def Vc:=@Nat.pow_le_pow_right
def Vd:=@List.getElem?_range
def Ve:=@List.take_length
def Vf:=@List.lookup_cons
def Vg:=@Int.natCast_nonneg
def Vh:=@Nat.lt_irrefl
def Vi:=@Int.mul_ne_zero
def Vj:=@Int.le_trans
def Vk:=@List.head?_eq_getElem?
def Vl:=@List.all_eq_true
def Vm:=@Rat.le_total
def Vn:=@List.flatMap_cons
def Vo:=@Nat.le_of_lt
def Vp:=@List.map_nil
def Vq:=@Nat.lt_of_le_of_lt
def Vr:=@Rat.mul_inv_cancel
def Vs:=@Rat.mul_le_mul_of_nonneg_left
def Vt:=@List.sum_append
def Vu:=@Rat.intCast_le_intCast
def Vv:=@Nat.succ_pos
def Vw:=@List.flatMap_append
def Vx:=@List.mem_append_left
def Vy:=@PySem.mem_of_lookup
def Vz:=@List.replicate_succ
def VA:=@List.nil_append
def VB:=@Nat.zero_add
def VC:=@Rat.divInt_eq_div
def VD:=@List.pairwise_map
def VE:=@List.getLast?_map
def VF:=@Nat.lt_succ_of_lt
def VG:=@List.nodup_cons
def VH:=@List.length_take
def VI:=@List.length_replicate
def VJ:=@List.flatten_cons
def VL:=@Int.le_of_lt
def VM:=@Bool.or_eq_true
def VN:=@List.drop_eq_nil_of_le
def VO:=@Nat.lt_or_eq_of_le
def VP:=@List.mem_iff_getElem?
def VQ:=@Bool.false_eq_true
def VR:=@Rat.le_of_mul_le_mul_right
def VS:=@PySem.F.excBase_ValueError
def VT:=@Array.length_toList
def VU:=@PyProof.Rows.callWith_type1
def VV:=@List.of_mem_zip
def VW:=@List.drop_zero
def VX:=@Nat.min_eq_left
def VY:=@List.take_of_length_le
def VZ:=@List.Pairwise.imp_of_mem
def V0:=@PySem.W.kia_one
def V3:=@List.drop_eq_getElem_cons
def V4:=@Nat.sub_self
def V5:=@List.ext_getElem?
def V6:=@List.not_mem_nil
def V7:=@Int.le_refl
def V8:=@Int.natCast_add
def V9:=@Int.add_mul
def Xa:=@List.mem_of_mem_take
def Xb:=@List.getLast?_cons_cons
def Xc:=@Bool.false_ne_true
def Xd:=@Nat.le_total
def Xe:=@Int.pow_pos
def Xf:=@List.length_nil
def Xg:=@List.getLast?_cons
def Xh:=@List.head?_map
def Xi:=@Rat.mul_nonneg
def Xj:=@List.filterMap_cons
def Xk:=@Nat.ne_of_gt
def Xl:=@List.getElem?_replicate
def Xm:=@Nat.max_le
def Xn:=@Nat.min_eq_right
def Xo:=@List.pairwise_iff_getElem
def Xp:=@Nat.min_self
def Xq:=@Nat.succ.inj
def Xr:=@List.cons_append
def Xs:=@Int.mul_pos
def Xt:=@List.take_succ_cons
def Xu:=@Classical.choose_spec
def Xv:=@List.pairwise_singleton
def Xw:=@List.flatMap_def
def Xx:=@PySem.W.hideAll_get
def Xy:=@List.mem_filterMap
def Xz:=@PySem.F.slot_tuple_add
def XA:=@PySem.F.entry_tuple_add
def XB:=@PySem.F.args_tuple_add_2
def XC:=@List.foldl_cons
def XD:=@List.length_singleton
def XF:=@Array.getElem?_toList
def XG:=@Int.eq_ofNat_of_zero_le
def XH:=@Int.gcd_dvd_left
def XI:=@Int.gcd_dvd_right
def XJ:=@Int.one_mul
def XL:=@Rat.divInt_mul_divInt
def XM:=@List.take_succ
def XN:=@Nat.succ_le_succ
def XO:=@Rat.mul_assoc
def XQ:=@Rat.mul_pos
def XR:=@Rat.inv_pos
def XS:=@Rat.zero_divInt
def XT:=@Rat.zero_mul
def XU:=@Nat.lt_or_ge
def XV:=@Nat.eq_zero_or_pos
def XW:=@PySem.intBits_le_iff
def XX:=@List.eq_nil_of_length_eq_zero
def XY:=@PySem.F.plainAttrs_list
def XZ:=@List.set_append_right
def X0:=@List.take_zero
def X1:=@List.range_succ
def X2:=@Nat.le_of_eq
def X3:=@List.length_zip
def X4:=@List.getElem?_reverse
def X5:=@List.set_set
def X6:=@Int.mul_nonneg
def X7:=@Int.mul_comm
def X8:=@Int.mul_assoc
def X9:=@List.sum_nil
def Yc:=@Int.add_assoc
def Yd:=@List.getLast?_reverse
def Yf:=@List.pairwise_append
def Yg:=@List.mem_reverse
def Yh:=@List.getElem?_drop
def Yi:=@List.take_append_drop
def Yj:=@Int.pow_add
def Yk:=@List.range_eq_range'
def Ym:=@List.flatMap_nil
def Yn:=@Nat.le_of_ble_eq_true
def Yo:=@PySem.W.cellsFrom_some
def Yp:=@Int.neg_ediv_of_dvd
def Yq:=@Int.sign_eq_one_of_pos
def Yr:=@Int.mul_le_mul_of_nonneg_right
def Ys:=@Int.fdiv_eq_ediv_of_nonneg
def Yt:=@Int.fmod_eq_emod_of_nonneg
def Yu:=@List.mem_of_getLast?
def Yv:=@Array.getElem?_eq_some_iff
def Yw:=@PySem.F.plain_list_iadd
def Yy:=@List.toList_toArray
def Yz:=@List.mergeSort_perm
def YA:=@List.pairwise_mergeSort
def YB:=@List.getElem?_zip_eq_some
def YC:=@Nat.lt_two_pow_self
def YD:=@List.mem_of_mem_drop
abbrev Fg_:=PySem.W.Frag
namespace L2
open PySem PySem.Spec PyProof.Rows
abbrev Key:=Sum Int Str
def zQw:Key->Value->Bool
 | .inl k,v=>Value.isInt k v
 | .inr x,v=>Value.isStrOf x v
def zSZ(w:World):Key->Int
 | .inl k=>hashInt k
 | .inr x=>hashStr w x
theorem dM:∀ {k:Key} {v:Value},zQw k v=true->(∃ i t,k=Sum.inl i/\v=Value.int i t)∨(∃ x t,k=Sum.inr x/\v=Value.str x t)
 | .inl i,v,h=>by
  obtain⟨t,e⟩:=Value.isInt_shape (k:=i) (v:=v) h;exact .inl ⟨i,t,rfl,e⟩
 | .inr x,v,h=>by
  obtain⟨t,e⟩:=Value.isStrOf_shape (x:=x) (v:=v) h;exact .inr ⟨x,t,rfl,e⟩
theorem zOY(a b:Int):decide ((Sum.inl a:Key)=Sum.inl b)=(a==b):=by
 by_cases e:a=b
 ·subst e;simp
 ·have h:¬ (Sum.inl a:Key)=Sum.inl b:=fun q=>e (Sum.inl.inj q)
  rw[decide_eq_false h];exact(beq_eq_false_iff_ne.mpr e).symm
theorem zQD(a b:Str):decide ((Sum.inr a:Key)=Sum.inr b)=decide (a=b):=by
 by_cases e:a=b
 ·subst e;simp
 ·have h:¬ (Sum.inr a:Key)=Sum.inr b:=fun q=>e (Sum.inr.inj q)
  rw[decide_eq_false h,decide_eq_false e]
theorem zPO(a:Int)(b:Str):decide ((Sum.inl a:Key)=Sum.inr b)=false:=decide_eq_false (fun q=>nomatch q)
theorem zPs(a:Str)(b:Int):decide ((Sum.inr a:Key)=Sum.inl b)=false:=decide_eq_false (fun q=>nomatch q)
def zJR(prog:Program)(w:World):PySem.KeyKind prog w Key where
 is:=zQw
 hash:=zSZ w
 inj:=fun v a b ha hb=>by
  rcases dM ha with⟨i,t,rfl,rfl⟩ | ⟨x,t,rfl,rfl⟩
  ·rcases dM hb with⟨j,u,rfl,e⟩ | ⟨y,u,rfl,e⟩
   ·injection e with e1 _;rw[e1]
   ·exact nomatch e
  ·rcases dM hb with⟨j,u,rfl,e⟩ | ⟨y,u,rfl,e⟩
   ·exact nomatch e
   ·injection e with e1 _;rw[e1]
 byValue:=fun k v h=>by
  rcases dM h with⟨i,t,rfl,rfl⟩ | ⟨x,t,rfl,rfl⟩<;>rfl
 pyHash:=fun hv h=>by
  rcases dM hv with⟨i,t,rfl,rfl⟩ | ⟨x,t,rfl,rfl⟩
  ·exact wpAny_pyHash_int h
  ·exact wpAny_pyHash_str h
 eqBool:=fun hu hv h=>by
  rcases dM hu with⟨i,t,rfl,rfl⟩ | ⟨x,t,rfl,rfl⟩
  ·rcases dM hv with⟨j,u,rfl,rfl⟩ | ⟨y,u,rfl,rfl⟩
   ·rw[zOY] at h;exact wpAny_eqBool_int h
   ·rw[zPO] at h;exact SeqAt.EqAt.int_str i t y u _ _ _ _ h
  ·rcases dM hv with⟨j,u,rfl,rfl⟩ | ⟨y,u,rfl,rfl⟩
   ·rw[zPs] at h;exact SeqAt.EqAt.str_int x t j u _ _ _ _ h
   ·rw[zQD] at h;exact wpAny_eqBool_str h
 «strs» := fun k x t v h=>by
  rcases dM h with⟨i,u,rfl,e⟩ | ⟨y,u,rfl,e⟩
  ·exact nomatch e
  ·injection e with e1 _
   subst e1;cases v<;>rfl
inductive V where
 | non | bl (b:Bool) | int (i:Int) | str (x:Str) | byt (b:Array UInt8) | flt (b:UInt64) | ref (a:Addr) | ty (n:String)
 deriving DecidableEq
def dI:V->Value->Prop
 | .non,u=>u=Value.none
 | .bl b,u=>u=Value.bool b
 | .int i,u=>∃ t,u=Value.int i t
 | .str x,u=>∃ t,u=Value.str x t
 | .byt b,u=>∃ t,u=Value.bytes b t
 | .flt b,u=>∃ t,u=Value.float b t
 | .ref a,u=>u=Value.ref a
 | .ty n,u=>u=Value.type n
abbrev dW:List V->List Value->Prop:=Paired dI
theorem dW.length{xs:List V}{us:List Value}(r:dW xs us):xs.length=us.length:=Paired.length r
theorem dW.get:∀ {xs:List V} {us:List Value} {i:Nat} {x:V},dW xs us->xs[i]?=some x->∃ u,us[i]?=some u/\dI x u
 | _,_,_,_,.nil,e=>by simp at e
 | _,_,0,_,.cons r _,e=>by simp at e;subst e;exact⟨_,rfl,r⟩
 | _,_,i+1,x,.cons _ t,e=>by
  obtain⟨u,h1,h2⟩:=dW.get (i:=i) (x:=x) t (by simpa using e)
  exact⟨u,by simpa using h1,h2⟩
theorem dW.set{x:V}{u:Value}(r:dI x u):∀ {xs:List V} {us:List Value} (i:Nat),dW xs us->dW (xs.set i x) (us.set i u)
 | _,_,_,.nil=>.nil
 | _,_,0,.cons _ t=>.cons r t
 | _,_,i+1,.cons q t=>.cons q (dW.set r i t)
theorem dW.append:∀ {xs ys:List V} {us ws:List Value},dW xs us->dW ys ws->dW (xs++ys) (us++ws)
 | _,_,_,_,.nil,s=>s
 | _,_,_,_,.cons r t,s=>.cons r (dW.append t s)
theorem dW.take:∀ {xs:List V} {us:List Value} (n:Nat),dW xs us->dW (xs.take n) (us.take n)
 | _,_,0,_=>.nil
 | _,_,_+1,.nil=>.nil
 | _,_,n+1,.cons r t=>.cons r (dW.take n t)
theorem dW.drop:∀ {xs:List V} {us:List Value} (n:Nat),dW xs us->dW (xs.drop n) (us.drop n)
 | _,_,0,r=>r
 | _,_,_+1,.nil=>.nil
 | _,_,n+1,.cons _ t=>dW.drop n t
def zSy:Option V->Option Value->Prop
 | some v,some u=>dI v u
 | none,none=>True
 | _,_=>False
def KV{κ:Type}:List (κ×V)->List (κ×Value)->Prop:=Paired fun(p:κ×V) (q:κ×Value)=>p.1=q.1/\dI p.2 q.2
def kV:Key->V
 | .inl i=>.int i
 | .inr x=>.str x
inductive HO where
 | lst (xs:List V)
 | tup (xs:List V)
 | dK (kvs:List (Key×V)) | dT (kvs:List (List Key×V))
 | set (S:Int->Bool) (n:Nat)
 | ins (C dx:Addr) (fs:List (Str×V))
 | own (x:Addr)
 | xd (fs:List (Str×V))
 | met (f x:Addr)
 | rng (lo hi:Int)
 | frz (o:Obj) (u:HO)
 | tbl (ps:Array Value)
 | ext (φ:Heap->Prop)
abbrev Hp:=Addr->Option HO
def upd(H:Hp)(a:Addr)(o:HO):Hp:=fun b=>if b=a then some o else H b
theorem aY{H:Hp}{a:Addr}{o:HO}:upd H a o a=some o:=by unfold upd;rw[if_pos rfl]
theorem bA{H:Hp}{a b:Addr}{o:HO}(h:b≠a):upd H a o b=H b:=by unfold upd;rw[if_neg h]
theorem zOZ{H:Hp}{a b:Addr}{o u:HO}(h:H a=some o)(h':H b=some u)(d:o≠u):a≠b:=by
 intro e;subst e;rw[h] at h';exact d (QP h')
theorem bD{H:Hp}{a b:Addr}{o:HO}(h:H a=some o)(h':H b=none):a≠b:=by
 intro e;subst e;rw[h] at h';cases h'
section
variable(P:Program)(w:World)
def mJ(H:Hp)(h:Heap)(a:Addr):HO->Prop
 | .lst xs=>xs.length<=sizeLine/\∃(its:List Value)(n:Nat),dW xs its/\h.get? a=some { cls:=.type "list", data:=.seq its.toArray n }
 | .tup xs=>xs.length<=sizeLine/\∃ its:List Value,dW xs its/\IsTup h a its.toArray
 | .dK kvs=>kvs.length<=sizeLine/\(a==sysModules)=false/\∃ vs,KV kvs vs/\h.DictOf (zJR P w) a vs
 | .dT kvs=>kvs.length<=sizeLine/\(a==sysModules)=false/\∃ xs:List (List Key×Addr×Value),
   Paired (fun(p:List Key×V) (q:List Key×Addr×Value)=>p.1=q.1/\H q.2.1=some (.tup (p.1.map kV))/\dI p.2 q.2.2) kvs xs/\
   ∃ o es ep,h.get? a=some o/\o.ExactDict/\o.data=.dict es ep/\es.toList=xs.map (entryOfKey (tupleKind (zJR P w)))/\(xs.map (·.1)).Nodup
 | .set S n=>h.SetOf (intKind P w) a S n
 | .ins C dx fs=>H dx=some (.own a)/\fs.length<=1000/\dx≠a/\h.get? a=some (PySem.W.instObj C dx)/\
   ∃ mA,h.Ns1 dx mA/\(∀ f,zSy (fs.lookup f) (mA f))/\PySem.Within mA (fs.map (·.1))
 | .own _=>∃ o,h.get? a=some o
 | .xd fs=>∃ mA,h.Ns1 a mA/\∀ f,zSy (fs.lookup f) (mA f)
 | .rng lo hi=>∃ t u v,h.get? a=some { cls:=.type "range", data:=.fields #[.int lo t,.int hi u,.int 1 v] }
 | .frz o u=>h.get? a=some o/\mJ H h a u
 | .tbl ps=>h.get? a=some { cls:=.none,data:=.fields ps }
 | .met f x=>h.get? a=some (PySem.W.methodObj (.ref f) (.ref x))
 | .ext φ=>φ h/\(∃ o,h.get? a=some o)/\∀ h1 h2:Heap,φ h1->(∀ o,h1.get? a=some o->h2.get? a=some o)->φ h2
def HOk(H:Hp)(h:Heap):Prop:=∀ a o,H a=some o->mJ P w H h a o
end
section
variable{P:Program}{w:World}{H H':Hp}{h h':Heap}{a:Addr}{o:HO}
theorem mJ.lt(x:mJ P w H h a o):a<h.objs.size:=by
 cases o with
 | lst xs=>obtain⟨_,_,_,_,e⟩:=x;exact Heap.lt_size e
 | tup xs=>obtain⟨_,_,_,p⟩:=x;exact p.lt
 | dK kvs=>obtain⟨_,_,_,_,o,_,_,e,_⟩:=x;exact Heap.lt_size e
 | dT kvs=>obtain⟨_,_,_,_,o,_,_,e,_⟩:=x;exact Heap.lt_size e
 | set S n=>obtain⟨o,_,_,_,e,_⟩:=x;exact Heap.lt_size e
 | ins C dx fs=>obtain⟨_,_,_,e,_⟩:=x;exact Heap.lt_size e
 | own y=>obtain⟨_,e⟩:=x;exact Heap.lt_size e
 | xd fs=>obtain⟨_,⟨_,_,_,e,_⟩,_⟩:=x;exact Heap.lt_size e
 | rng lo hi=>obtain⟨_,_,_,e⟩:=x;exact Heap.lt_size e
 | frz ob u=>obtain⟨e,_⟩:=x;exact Heap.lt_size e
 | tbl ps=>exact Heap.lt_size (show h.get? a=some _ from x)
 | met f y=>exact Heap.lt_size (show h.get? a=some _ from x)
 | ext φ=>obtain⟨_,⟨_,e⟩,_⟩:=x;exact Heap.lt_size e
theorem Paired.mapP{α β:Type}{F G:α->β->Prop}:∀ {l₁:List α} {l₂:List β},Paired F l₁ l₂->(∀ a b,F a b->G a b)->Paired G l₁ l₂
 | _,_,.nil,_=>.nil
 | _,_,.cons r t,f=>.cons (f _ _ r) (Paired.mapP t f)
theorem mJ.stay(x:mJ P w H h a o)(k:∀ b u,(b=a∨H b=some (.own a))->h.get? b=some u->h'.get? b=some u)
  (ho:∀ b,H b=some (.own a)->H' b=some (.own a)) (ht:∀ b xs,H b=some (.tup xs)->H' b=some (.tup xs)):mJ P w H' h' a o:=by
 induction o with
 | lst xs=>obtain⟨z,its,n,r,e⟩:=x;exact⟨z,its,n,r,k _ _ (.inl rfl) e⟩
 | tup xs=>obtain⟨z,its,r,ob,e,c⟩:=x;exact⟨z,its,r,ob,k _ _ (.inl rfl) e,c⟩
 | dK kvs=>obtain⟨z,y,vs,r,ob,es,ep,e,c⟩:=x;exact⟨z,y,vs,r,ob,es,ep,k _ _ (.inl rfl) e,c⟩
 | dT kvs=>
  obtain⟨z,y,xs,r,ob,es,ep,e,c⟩:=x;exact⟨z,y,xs,Paired.mapP r fun p q z=>⟨z.1,ht _ _ z.2.1,z.2.2⟩,ob,es,ep,k _ _ (.inl rfl) e,c⟩
 | set S n=>obtain⟨ob,es,ep,t,e,c⟩:=x;exact⟨ob,es,ep,t,k _ _ (.inl rfl) e,c⟩
 | ins C dx fs=>
  obtain⟨d,z,ne,e,mA,⟨od,es,ep,e2,c⟩,r⟩:=x;exact⟨ho _ d,z,ne,k _ _ (.inl rfl) e,mA,⟨od,es,ep,k _ _ (.inr d) e2,c⟩,r⟩
 | own y=>obtain⟨ob,e⟩:=x;exact⟨ob,k _ _ (.inl rfl) e⟩
 | xd fs=>obtain⟨mA,⟨od,es,ep,e,c⟩,r⟩:=x;exact⟨mA,⟨od,es,ep,k _ _ (.inl rfl) e,c⟩,r⟩
 | rng lo hi=>obtain⟨t,u,v,e⟩:=x;exact⟨t,u,v,k _ _ (.inl rfl) e⟩
 | frz ob u ih=>obtain⟨e,q⟩:=x;exact⟨k _ _ (.inl rfl) e,ih q⟩
 | tbl ps=>
  have e:h.get? a=some { cls:=.none,data:=.fields ps }:=x;show h'.get? a=some { cls:=.none,data:=.fields ps }
  exact k a _ (.inl rfl) e
 | met f y=>
  have e:h.get? a=some (PySem.W.methodObj (.ref f) (.ref y)):=x;show h'.get? a=some (PySem.W.methodObj (.ref f) (.ref y))
  exact k a _ (.inl rfl) e
 | ext φ=>obtain⟨p,⟨o,e⟩,st⟩:=x;exact⟨st _ _ p fun o q=>k _ _ (.inl rfl) q,⟨o,k _ _ (.inl rfl) e⟩,st⟩
theorem HOk.lt(x:HOk P w H h)(e:H a=some o):a<h.objs.size:=(x a o e).lt
theorem HOk.fresh(x:HOk P w H h)(e:h.objs.size<=a):H a=none:=by
 cases q:H a with
 | none=>rfl
 | some u=>exact absurd (Qp (x.lt q) e) (Vh _)
theorem HOk.kept(x:HOk P w H h)(k:∀ b u,h.get? b=some u->h'.get? b=some u):HOk P w H h':=fun a o e=>
 (x a o e).stay (fun b u _ q=>k b u q) (fun _ q=>q) fun _ _ q=>q
theorem HOk.laid(x:HOk P w H h)(k:∀ b u,h.get? b=some u->h'.get? b=some u)(hp:h.objs.size<=a)(new:mJ P w (upd H a o) h' a o):HOk P w (upd H a o) h':=fun b u e=>by
 have hn:=x.fresh hp;by_cases hb:b=a
 ·subst hb;rw[aY] at e;cases e;exact new
 ·rw[bA hb] at e
  exact(x b u e).stay (fun c v _ q=>k c v q) (fun c q=>by rw[bA (bD q hn)];exact q) fun c xs q=>by rw[bA (bD q hn)];exact q
end
def Rd(H:Hp)(a:Addr)(u:HO):Prop:=H a=some u∨∃ o,H a=some (.frz o u)
theorem Rd.ok{P:Program}{w:World}{H:Hp}{h:Heap}{a:Addr}{u:HO}(r:Rd H a u)(x:HOk P w H h):mJ P w H h a u:=by
 rcases r with r | ⟨o,r⟩
 ·exact x a u r
 ·obtain⟨_,q⟩:=x a _ r
  exact q
def Mut:Option HO->Prop
 | some (.lst _)=>True
 | some (.dK _)=>True
 | some (.dT _)=>True
 | some (.set _ _)=>True
 | some (.ins _ _ _)=>True
 | some (.ext _)=>True
 | _=>False
section
variable{P:Program}{w:World}{H:Hp}{h h':Heap}{x e:Addr}{o':HO}
theorem HOk.write(ok:HOk P w H h)(mu:Mut (H x))(he:e=x∨H e=some (.own x))(k:∀ b u,b≠e->h.get? b=some u->h'.get? b=some u)(heo:∃ u,h'.get? e=some u)
  (new:mJ P w (upd H x o') h' x o'):HOk P w (upd H x o') h':=fun b u q=>by
 have nown:∀ c y,H c=some (.own y)->c≠x:=fun c y r z=>by subst z;rw[r] at mu;exact mu
 have ntup:∀ c xs,H c=some (.tup xs)->c≠x:=fun c xs r z=>by subst z;rw[r] at mu;exact mu
 by_cases hb:b=x
 ·subst hb;rw[aY] at q;cases q;exact new
 ·rw[bA hb] at q
  by_cases hbe:b=e
  ·have q':H b=some (.own x):=by
    rcases he with z | z
    ·exact absurd (hbe.trans z) hb
    ·rw[hbe];exact z
   rw[q] at q';cases q'
   obtain⟨v,hv⟩:=heo;exact⟨v,by rw[hbe];exact hv⟩
  ·refine(ok b u q).stay (fun c v hc r=>k c v ?_ r) (fun c r=>by rw[bA (nown c b r)];exact r) fun c xs r=>by rw[bA (ntup c xs r)];exact r
   rcases hc with rfl | hc
   ·exact hbe
   ·rintro rfl
    rcases he with z | z
    ·exact nown c b hc z
    ·rw[hc] at z;cases z;exact hb rfl
end
structure Un (fs ex:List Addr) (H H':Hp) (h h':Heap):Prop where
 keep:∀ b o,h.get? b=some o->H b=none->b∉fs->b∉ex->h'.get? b=some o
 slot:∀ b o,h.get? b=some o->H b=none->b∈fs->b∉ex->∃ sl,h'.get? b=some { o with slots:=sl }
 free:∀ b o,h.get? b=some o->H b=none->b∉ex->H' b=none
 there:∀ b o,h.get? b=some o->b∉ex->∃ o',h'.get? b=some o'
 tups:∀ b xs,H b=some (.tup xs)->H' b=some (.tup xs)
 frzs:∀ b o u,H b=some (.frz o u)->H' b=some (.frz o u)
 tbls:∀ b ps,H b=some (.tbl ps)->∃ more,H' b=some (.tbl (ps++more))
section
variable{fs fs' ex ex':List Addr}{H H1 H2:Hp}{h h1 h2 h':Heap}{a x e:Addr}{o:HO}
theorem Un.any(u:Un fs ex H H1 h h1){b:Addr}{ob:Obj}(q:h.get? b=some ob)(n:H b=none)(hx:b∉ex):∃ sl,h1.get? b=some { ob with slots:=sl }:=by
 by_cases hb:b∈fs
 ·exact u.slot b ob q n hb hx
 ·exact⟨ob.slots,u.keep b ob q n hb hx⟩
theorem Un.kept(k:∀ b u,h.get? b=some u->h'.get? b=some u):Un fs ex H H h h':=
 ⟨fun b ob q _ _ _=>k b ob q,fun b ob q _ _ _=>⟨ob.slots,k b ob q⟩,fun _ _ _ n _=>n,fun b ob q _=>⟨ob,k b ob q⟩,fun _ _ q=>q,fun _ _ _ q=>q,fun _ ps q=>⟨#[],by rw[q];simp⟩⟩
theorem Un.refl:Un fs ex H H h h:=Un.kept fun _ _ q=>q
theorem Un.laid(k:∀ b u,h.get? b=some u->h'.get? b=some u)(hp:h.objs.size<=a)(hn:H a=none):Un fs ex H (upd H a o) h h' where
 keep:=fun b u q _ _ _=>k b u q
 slot:=fun b u q _ _ _=>⟨u.slots,k b u q⟩
 free:=fun b u q n _=>by rw[bA (Qt (Qp (Heap.lt_size q) hp))];exact n
 there:=fun b u q _=>⟨u,k b u q⟩
 tups:=fun b xs q=>by rw[bA (bD q hn)];exact q
 frzs:=fun b u xs q=>by rw[bA (bD q hn)];exact q
 tbls:=fun b ps q=>⟨#[],by rw[bA (bD q hn),q];simp⟩
theorem Un.write(mu:Mut (H x))(he:e=x∨H e=some (.own x))(k:∀ b u,b≠e->h.get? b=some u->h'.get? b=some u)(heo:∃ u,h'.get? e=some u):Un fs ex H (upd H x o) h h':=by
 have hx:∀ b,H b=none->b≠x:=fun b n z=>by subst z;rw[n] at mu;exact mu
 have hb:∀ b,H b=none->b≠e:=fun b n z=>by
  subst z;rcases he with r | r
  ·exact hx b n r
  ·rw[n] at r;cases r
 have hm:∀ b u,H b=some u->¬ Mut (some u)->b≠x:=fun b u q nm z=>by subst z;rw[q] at mu;exact nm mu
 refine⟨fun b u q n _ _=>k b u (hb b n) q,fun b u q n _ _=>⟨u.slots,k b u (hb b n) q⟩,fun b u q n _=>by rw[bA (hx b n)];exact n,fun b u q _=>?_,
  fun b xs q=>by rw[bA (hm b _ q fun z=>z)];exact q,fun b u xs q=>by rw[bA (hm b _ q fun z=>z)];exact q,fun b ps q=>⟨#[],by rw[bA (hm b _ q fun z=>z),q];simp⟩⟩
 by_cases hbe:b=e
 ·subst hbe;exact heo
 ·exact⟨u,k b u hbe q⟩
end
def trk(h:Heap)(H:Hp):List Addr:=(List.range h.objs.size).filter fun a=>(H a).isSome
def zKi(h:Heap)(H:Hp):Heap:=PySem.W.hideAll h (trk h H)
theorem zIn(h:Heap)(H:Hp):(zKi h H).objs.size=h.objs.size:=PySem.W.hideAll_size _ _
theorem zLo{h:Heap}{H:Hp}{b:Addr}{o:Obj}(e:h.get? b=some o)(n:H b=none):(zKi h H).get? b=some o:=
 Xx _ e fun hm=>by
  have q:(H b).isSome=true:=(List.mem_filter.mp hm).2;rw[n] at q;simp at q
theorem zNK{h:Heap}{H:Hp}{b:Addr}{o:Obj}(e:(zKi h H).get? b=some o):h.get? b=some o/\H b=none:=by
 have e':h.get? b=some o:=PySem.W.of_hideAll (trk h H) e;refine⟨e',?_⟩
 cases q:H b with
 | none=>rfl
 | some x=>
  have hm:b∈trk h H:=List.mem_filter.mpr ⟨Qj.mpr (Heap.lt_size e'),by simp[q]⟩
  have z:(zKi h H).get? b=none:=PySem.W.hideAll_none (trk h H) hm;rw[z] at e;cases e
def zMI(g h:Heap)(L:Addr):List (Addr×Obj):=(List.range h.objs.size).filterMap fun a=>if a=L∨(g.get? a).isSome=true then none else (h.get? a).map fun o=>(a,o)
def rest(g h:Heap)(L d:Addr):List (Addr×Obj):=(zMI g h L).filter fun p=>decide (p.1≠d)
structure Mod (K:PySem.W.Frag) (mg:Str->Option Value) (base:Heap):Prop where
 kin:K.In base
 glob:base.Ns mainGlobals mg
 blt:∃ mb,base.Ns builtinsNs mb/\∀ x:Str,x ≠ "__name__" -> mb x=bootBuiltins x
 nolimit:base.NoLimit
structure Cx where
 prog:Program
 w:World
 K:PySem.W.Frag
 mg:Str->Option Value
 base:Heap
 A:Around
 N:List Str
 s₀:Shared
 H₀:Hp
 env:Env
 outer:List Env
 stack:List Env
 ex:List Addr
 fn:Str->Bool
 calm:Bool
 pn:List (Addr×Obj)
 xe:Value->Shared->Prop
def frs(l:List Env):List Addr:=l.filterMap (·.frame)
abbrev Cx.fs(X:Cx):List Addr:=frs X.outer
def Vis(sc:Scope)(x:Str):Prop:=sc.names.lookup x=some .local∨sc.names.lookup x=some .cell∨sc.names.lookup x=some .free
def Loc(sc:Scope)(x:Str):Prop:=sc.names.lookup x=some .local∨sc.names.lookup x=some .cell
def zSS(env:Env)(h:Heap)(m:Str->Option Value)(x:Str)(u:Value):Prop:=
 (env.kindOf x=some .local/\m x=some u)∨((env.kindOf x=some .cell∨env.kindOf x=some .free)/\∃ c,env.cells.lookup x=some c/\h.IsCell c (some u))
structure Cx.Ok (X:Cx):Prop where
 mod:Mod X.K X.mg X.base
 kind:X.env.scope.kind=.function
 glob:X.env.globals=mainGlobals
 blt:X.env.builtins=builtinsNs
 above:X.s₀.heap.objs.size<=X.env.locals
 inj:∀ x y c,X.env.cells.lookup x=some c->X.env.cells.lookup y=some c->x=y
 has:∀ x,(X.env.kindOf x=some .cell∨X.env.kindOf x=some .free)->∃ c,X.env.cells.lookup x=some c
 cab:∀ x c,X.fn x=true->X.env.cells.lookup x=some c->X.s₀.heap.objs.size<=c
 hd:X.calm=true->X.A.handled=none
 frames:X.A.frames=some X.stack
 stk:X.stack=X.outer∨(X.stack=X.env::X.outer/\X.env.frame=some X.env.locals)
 exf:∀ b∈X.ex,b≠X.env.locals/\∀ x c,X.env.cells.lookup x=some c->c≠b
 bs:∀ b o,X.base.get? b=some o->X.s₀.heap.get? b=some o/\X.H₀ b=none
 bsz:X.base.objs.size<=X.s₀.heap.objs.size
 noex:∀ b o,X.base.get? b=some o->b∉X.ex
 exfs:∀ b∈X.ex,b∉X.fs
 funs:X.s₀.heap.FunFrames X.base X.outer
 frf:∀ b∈X.fs,X.H₀ b=none
structure Inv (X:Cx) (pins:List (Addr×Obj)) (σ:List (Option V)) (H:Hp) (s:Shared):Prop where
 ok:X.Ok
 os:s.os=X.s₀.os
 bare:AllBare s.gens
 base:Un X.fs X.ex X.H₀ H X.s₀.heap s.heap
 loc:∃ m,s.heap.Ns X.env.locals m/\∀(i:Nat)(x:Str)(v:V),X.N[i]?=some x->σ[i]?=some (some v)->Vis X.env.scope x->∃ u,dI v u/\zSS X.env s.heap m x u
 cell:∀ x c,X.env.cells.lookup x=some c->∃ v,s.heap.IsCell c v
 free:H X.env.locals=none
 freeC:∀ x c,X.env.cells.lookup x=some c->H c=none
 pin:∀ p∈X.pn++pins,s.heap.get? p.1=some p.2/\H p.1=none/\p.1≠X.env.locals/\p.1∉X.fs/\∀ v,p.2.data≠.cell v
 hok:HOk X.prog X.w H s.heap
 len:σ.length=X.N.length
section
variable{X:Cx}{pins:List (Addr×Obj)}{σ:List (Option V)}{H H':Hp}{s:Shared}{h':Heap}
theorem Cx.Ok.nofr(ok:X.Ok){b:Addr}{o:Obj}(e:X.base.get? b=some o):b∉X.fs:=fun hb=>by
 have:=(ok.funs.mem hb).1
 rw[e] at this;cases this
theorem Inv.bs(I:Inv X pins σ H s):∀ b o,X.base.get? b=some o->s.heap.get? b=some o/\H b=none:=fun b o e=>
 ⟨I.base.keep b o (I.ok.bs b o e).1 (I.ok.bs b o e).2 (I.ok.nofr e) (I.ok.noex b o e),I.base.free b o (I.ok.bs b o e).1 (I.ok.bs b o e).2 (I.ok.noex b o e)⟩
theorem Inv.bk(I:Inv X pins σ H s):∀ b o,X.base.get? b=some o->s.heap.get? b=some o:=fun b o e=>(I.bs b o e).1
theorem Inv.mod(I:Inv X pins σ H s):Mod X.K X.mg X.base:=I.ok.mod
theorem Inv.kIn(I:Inv X pins σ H s):X.K.In s.heap:=I.ok.mod.kin.keeps I.bk
theorem Inv.lt(I:Inv X pins σ H s):X.env.locals<s.heap.objs.size:=let ⟨_,hn,_⟩:=I.loc;hn.lt
theorem Inv.sz(I:Inv X pins σ H s):X.s₀.heap.objs.size<=s.heap.objs.size:=QD I.ok.above (Vo I.lt)
theorem Inv.nofs(I:Inv X pins σ H s){a:Addr}(h:s.heap.objs.size<=a):a∉X.fs:=fun hb=>by
 obtain⟨_,o,ho,_⟩:=I.ok.funs.mem hb;exact absurd (Qp (Heap.lt_size ho) (QD I.sz h)) (Vh _)
theorem Inv.cne(I:Inv X pins σ H s):∀ x c,X.env.cells.lookup x=some c->c≠X.env.locals:=fun x c e z=>by
 obtain⟨v,o,ho,hd⟩:=I.cell x c e;obtain⟨m,⟨o',es,ep,ho',hd',_⟩,_⟩:=I.loc;rw[z,ho'] at ho;cases ho;rw[hd'] at hd;cases hd
theorem Inv.funs(I:Inv X pins σ H s):s.heap.FunFrames X.base X.outer:=by
 have all:∀(l:List Env),(∀ b∈frs l,b∈X.fs)->X.s₀.heap.FunFrames X.base l->s.heap.FunFrames X.base l:=by
  intro l
  induction l with
  | nil=>intro _ _;trivial
  | cons env r ih=>
   intro hs hl;obtain⟨hk,⟨L,o,hf,hn,ho,hd⟩,hr⟩:=hl;have hL:L∈X.fs:=hs L (by unfold frs;rw[Xj,hf];exact Qb)
   obtain⟨sl,e⟩:=I.base.slot L o ho (I.ok.frf L hL) hL fun z=>I.ok.exfs L z hL
   exact⟨hk,⟨L,_,hf,hn,e,hd⟩,ih (fun b hb=>hs b (by unfold frs;rw[Xj,hf];exact Qc _ hb)) hr⟩
 exact all X.outer (fun _ hb=>hb) I.ok.funs
theorem Inv.stack(I:Inv X pins σ H s):s.heap.FunFrames X.base X.stack:=by
 rcases I.ok.stk with e | ⟨e,hf⟩
 ·rw[e];exact I.funs
 ·rw[e]
  obtain⟨m,hn,_⟩:=I.loc;refine .cons (by rw[I.ok.kind];decide) hf hn ?_ I.funs
  exact Heap.get?_none_of_le (QD I.ok.bsz I.ok.above)
theorem Inv.stkSub(I:Inv X pins σ H s):∀ b∈frs X.stack,b∈X.env.locals::X.fs:=fun b hb=>by
 rcases I.ok.stk with e | ⟨e,hf⟩
 ·rw[e] at hb;exact Qc _ hb
 ·rw[e] at hb
  unfold frs at hb;rw[Xj,hf] at hb;exact hb
theorem Inv.stkFree(I:Inv X pins σ H s):∀ b∈frs X.stack,H b=none:=fun b hb=>by
 rcases Qd.mp (I.stkSub b hb) with e | hb
 ·rw[e];exact I.free
 ·obtain⟨_,o,ho,_⟩:=I.ok.funs.mem hb
  exact I.base.free b o ho (I.ok.frf b hb) fun z=>I.ok.exfs b z hb
theorem Inv.step{g':Array GenState}{t':Nat}{d':Drawn}{ch:List Addr}(I:Inv X pins σ H s)
  (hch:∀ b∈ch,(b∈X.ex∨X.s₀.heap.objs.size<=b)/\b≠X.env.locals/\(∀ x c,X.env.cells.lookup x=some c->c≠b)/\∀ p∈X.pn++pins,p.1≠b)
  (keep:∀ b o,b≠X.env.locals->b∉X.fs->b∉ch->s.heap.get? b=some o->H b=none->h'.get? b=some o)
  (slot:∀ b o,b≠X.env.locals->b∈X.fs->b∉ch->s.heap.get? b=some o->H b=none->∃ sl,h'.get? b=some { o with slots:=sl }) (free:∀ b o,b∉ch->s.heap.get? b=some o->H b=none->H' b=none)
  (there:∀ b o,b∉ch->s.heap.get? b=some o->∃ o',h'.get? b=some o')
  (tups:∀ b xs,H b=some (.tup xs)->H' b=some (.tup xs)) (frzs:∀ b o u,H b=some (.frz o u)->H' b=some (.frz o u)) (tbls:∀ b ps,H b=some (.tbl ps)->∃ more,H' b=some (.tbl (ps++more)))
  (ns:∀ m,s.heap.Ns X.env.locals m->h'.Ns X.env.locals m) (hok:HOk X.prog X.w H' h') (hg:AllBare g'):
  Inv X pins σ H' { s with heap:=h',gens:=g',drawn:=d',toks:=t' }:=by
 have neL:∀ b o,X.s₀.heap.get? b=some o->b≠X.env.locals:=fun b o e=>Qt (Qp (Heap.lt_size e) I.ok.above)
 have neC:∀ b o,X.s₀.heap.get? b=some o->b∉X.ex->b∉ch:=fun b o e hx hb=>by
  rcases (hch b hb).1 with z | z
  ·exact hx z
  ·exact absurd (Qp (Heap.lt_size e) z) (Vh _)
 have cellK:∀ x c,X.env.cells.lookup x=some c->∀ v,s.heap.IsCell c v->h'.IsCell c v:=fun x c e v ⟨o,ho,hd⟩=>by
  have nch:c∉ch:=fun z=>(hch c z).2.2.1 x c e rfl
  by_cases hc:c∈X.fs
  ·obtain⟨sl,q⟩:=slot c o (I.cne x c e) hc nch ho (I.freeC x c e)
   exact⟨_,q,hd⟩
  ·exact⟨o,keep c o (I.cne x c e) hc nch ho (I.freeC x c e),hd⟩
 refine⟨I.ok,I.os,hg,⟨fun b o e n hb hx=>?_,fun b o e n hb hx=>?_,fun b o e n hx=>?_,fun b o e hx=>?_,fun b xs e=>tups b xs (I.base.tups b xs e),fun b o xs e=>frzs b o xs (I.base.frzs b o xs e),fun b ps e=>?_⟩,?_,fun x c e=>?_,?_,fun x c e=>?_,fun p hp=>?_,hok,I.len⟩
 ·exact keep b o (neL b o e) hb (neC b o e hx) (I.base.keep b o e n hb hx) (I.base.free b o e n hx)
 ·obtain⟨sl,e1⟩:=I.base.slot b o e n hb hx
  obtain⟨sl',e2⟩:=slot b _ (neL b o e) hb (neC b o e hx) e1 (I.base.free b o e n hx);exact⟨sl',e2⟩
 ·obtain⟨o',e1⟩:=I.base.there b o e hx
  exact free b o' (neC b o e hx) e1 (I.base.free b o e n hx)
 ·obtain⟨o',e1⟩:=I.base.there b o e hx
  exact there b o' (neC b o e hx) e1
 ·obtain⟨m1,e1⟩:=I.base.tbls b ps e
  obtain⟨m2,e2⟩:=tbls b _ e1;exact⟨m1++m2,by rw[e2,Array.append_assoc]⟩
 ·obtain⟨m,hn,hl⟩:=I.loc
  refine⟨m,ns m hn,fun i x v e1 e2 e3=>?_⟩
  obtain⟨u,r,l⟩:=hl i x v e1 e2 e3;refine⟨u,r,?_⟩
  rcases l with l | ⟨k,c,e,z⟩
  ·exact .inl l
  ·exact .inr ⟨k,c,e,cellK x c e _ z⟩
 ·obtain⟨v,z⟩:=I.cell x c e
  exact⟨v,cellK x c e v z⟩
 ·obtain⟨m,⟨o,_,_,ho,_⟩,_⟩:=I.loc
  exact free _ o (fun z=>(hch _ z).2.1 rfl) ho I.free
 ·obtain⟨v,o,ho,hd⟩:=I.cell x c e
  exact free c o (fun z=>(hch c z).2.2.1 x c e rfl) ho (I.freeC x c e)
 ·obtain⟨e,n,ne,nf,d⟩:=I.pin p hp
  have nch:p.1∉ch:=fun z=>(hch p.1 z).2.2.2 p hp rfl
  exact⟨keep p.1 p.2 ne nf nch e n,free p.1 p.2 nch e n,ne,nf,d⟩
theorem Inv.un{t':Nat}(I:Inv X pins σ H s)(u:Un X.fs [] H H' s.heap h')(hok:HOk X.prog X.w H' h'):Inv X pins σ H' { s with heap:=h',toks:=t' }:=by
 obtain⟨m,⟨o,es,ep,ho,r⟩,_⟩:=id I.loc;obtain⟨sl,hL⟩:=u.any ho I.free (by simp)
 exact I.step (g':=s.gens) (d':=s.drawn) (ch:=[]) (fun _ z=>nomatch z) (fun b o _ hb _ e n=>u.keep b o e n hb (by simp)) (fun b o _ hb _ e n=>u.slot b o e n hb (by simp)) (fun b o _ e n=>u.free b o e n (by simp)) (fun b o _ e=>u.there b o e (by simp)) u.tups u.frzs u.tbls (fun m' hm=>by
  obtain⟨o',es',ep',ho',r'⟩:=hm;rw[ho] at ho';cases ho'
  exact⟨_,es',ep',hL,r'⟩) hok I.bare
theorem Inv.call{g':Array GenState}{t':Nat}{d':Drawn}{ch:List Addr}(I:Inv X pins σ H s)(u:Un (frs X.stack) ch H H' s.heap h')(hok:HOk X.prog X.w H' h')(hg:AllBare g')
  (hch:∀ b∈ch,(b∈X.ex∨X.s₀.heap.objs.size<=b)/\b≠X.env.locals/\(∀ x c,X.env.cells.lookup x=some c->c≠b)/\∀ p∈X.pn++pins,p.1≠b):
  Inv X pins σ H' { s with heap:=h',gens:=g',drawn:=d',toks:=t' }:=by
 obtain⟨m,⟨o,es,ep,ho,r⟩,_⟩:=id I.loc;obtain⟨sl,hL⟩:=u.any ho I.free fun z=>(hch _ z).2.1 rfl
 exact I.step (ch:=ch) hch (fun b o hL hb hc e n=>u.keep b o e n (fun z=>(Qd.mp (I.stkSub b z)).elim hL hb) hc) (fun b o _ _ hc e n=>u.any e n hc) (fun b o hc e n=>u.free b o e n hc) (fun b o hc e=>u.there b o e hc) u.tups u.frzs u.tbls (fun m' hm=>by
  obtain⟨o',es',ep',ho',r'⟩:=hm;rw[ho] at ho';cases ho'
  exact⟨_,es',ep',hL,r'⟩) hok hg
theorem Inv.turned{t':Nat}{it:Addr}(I:Inv X pins σ H s)(k:∀ b o,b≠it->s.heap.get? b=some o->h'.get? b=some o)(hn:H it=none)(hL:it≠X.env.locals)
  (h1:it∈X.ex∨X.s₀.heap.objs.size<=it) (h2:∀ x c,X.env.cells.lookup x=some c->c≠it) (h3:∀ p∈X.pn++pins,p.1≠it):Inv X pins σ H { s with heap:=h',toks:=t' }:=by
 have nit:∀ b u,H b=some u->b≠it:=fun b u e z=>by rw[z,hn] at e;cases e
 refine I.step (g':=s.gens) (d':=s.drawn) (ch:=[it]) (fun b hb=>?_) (fun b o _ _ hc e _=>k b o (fun z=>hc (by simp[z])) e) (fun b o _ _ hc e _=>⟨o.slots,k b o (fun z=>hc (by simp[z])) e⟩) (fun _ _ _ _ n=>n)
  (fun b o hc e=>⟨o,k b o (fun z=>hc (by simp[z])) e⟩) (fun _ _ e=>e) (fun _ _ _ e=>e) (fun b ps e=>⟨#[],by rw[e];simp⟩) (fun m hm=>?_) (fun b u e=>?_) I.bare
 ·have e:b=it:=by simpa using hb
  subst e;exact⟨h1,hL,h2,h3⟩
 ·obtain⟨o,es,ep,ho,r⟩:=hm
  exact⟨o,es,ep,k _ o (Ne.symm hL) ho,r⟩
 ·refine(I.hok b u e).stay (fun c v hc q=>k c v ?_ q) (fun _ q=>q) fun _ _ q=>q
  rcases hc with z | z
  ·rw[z];exact nit b u e
  ·exact nit c _ z
theorem Inv.tok(I:Inv X pins σ H s)(t:Nat):Inv X pins σ H { s with toks:=t }:=I.un (h':=s.heap) (t':=t) Un.refl I.hok
theorem Inv.kept{t':Nat}(I:Inv X pins σ H s)(k:∀ b u,s.heap.get? b=some u->h'.get? b=some u):Inv X pins σ H { s with heap:=h',toks:=t' }:=I.un (Un.kept k) (I.hok.kept k)
theorem Inv.laid{a:Addr}{o:HO}{t':Nat}(I:Inv X pins σ H s)(k:∀ b u,s.heap.get? b=some u->h'.get? b=some u)(hp:s.heap.objs.size<=a)(new:mJ X.prog X.w (upd H a o) h' a o):
  Inv X pins σ (upd H a o) { s with heap:=h',toks:=t' }:=I.un (Un.laid k hp (I.hok.fresh hp)) (I.hok.laid k hp new)
theorem Inv.write{x e:Addr}{o:HO}{t':Nat}(I:Inv X pins σ H s)(mu:Mut (H x))(he:e=x∨H e=some (.own x))(k:∀ b u,b≠e->s.heap.get? b=some u->h'.get? b=some u)(heo:∃ u,h'.get? e=some u)
  (new:mJ X.prog X.w (upd H x o) h' x o):Inv X pins σ (upd H x o) { s with heap:=h',toks:=t' }:=I.un (Un.write mu he k heo) (I.hok.write mu he k heo new)
theorem Inv.pins_of{pins':List (Addr×Obj)}(I:Inv X pins σ H s)(h:∀ p∈pins',s.heap.get? p.1=some p.2/\H p.1=none/\p.1≠X.env.locals/\p.1∉X.fs/\∀ v,p.2.data≠.cell v):Inv X pins' σ H s:=
 ⟨I.ok,I.os,I.bare,I.base,I.loc,I.cell,I.free,I.freeC,fun p hp=>(QI.mp hp).elim (fun z=>I.pin p (Vx _ z)) (h p),I.hok,I.len⟩
theorem zGa{N:List Str}(hN:N.Nodup){i j:Nat}{x:Str}(a:N[i]?=some x)(b:N[j]?=some x):i=j:=by
 obtain⟨h1,e1⟩:=QC.mp a;obtain⟨h2,e2⟩:=QC.mp b;exact(List.getElem_inj hN).mp (e1.trans e2.symm)
theorem zDn{M:Model}{A:Around}{E:Value->Shared->Prop}{i:Nat}{x:Str}{v:V}{u:Value}{Q:Unit->Shared->Prop}(I:Inv X pins σ H s)(hN:X.N.Nodup)(hi:X.N[i]?=some x)(hx:Loc X.env.scope x)(r:dI v u)
  (h:∀ s',Inv X pins (σ.set i (some v)) H s'->(∃ a,Heap.SameBut a s.heap s'.heap/\(a=X.env.locals∨X.env.cells.lookup x=some a))->Q () s') (hf:X.fn x=true∨X.env.scope.names.lookup x=some .local:=by first | exact .inl rfl | exact .inr rfl | assumption):wpAny M A (storeName X.env x u) Q E s:=by
 obtain⟨m,hn,hl⟩:=id I.loc;have hcls:(X.env.scope.kind==.class || (X.env.scope.kind==.module && X.env.locals != X.env.globals))=false:=by rw[I.ok.kind];rfl
 have hiσ:i<σ.length:=by rw[I.len];exact(QC.mp hi).1
 have cne:=I.cne
 have tracked:∀ {a:Addr} {h':Heap},(∃ o,s.heap.get? a=some o/\H a=none)->Heap.SameBut a s.heap h'->HOk X.prog X.w H h':=fun {a h'} ha hs b ob e=>by
  obtain⟨_,_,hfree⟩:=ha;refine(I.hok b ob e).stay (fun c w' hc q=>(hs.2 c ?_).trans q) (fun _ q=>q) fun _ _ q=>q
  rintro rfl
  rcases hc with rfl | hc
  ·rw[hfree] at e;cases e
  ·rw[hfree] at hc;cases hc
 rcases hx with hk | hk
 ·refine wpAny_storeName_local hk hn (fun h' hn' hs=>?_) hcls
  obtain⟨oL,_,_,hoL,_⟩:=id hn;refine h _ ⟨I.ok,I.os,I.bare,⟨fun b o e n hb hx=>?_,fun b o e n hb hx=>?_,I.base.free,fun b o e hx=>?_,I.base.tups,I.base.frzs,I.base.tbls⟩,⟨_,hn',fun j y v' e1 e2 e3=>?_⟩,fun y c e=>?_,I.free,I.freeC,fun p hp=>?_,tracked ⟨oL,hoL,I.free⟩ hs,by simpa using I.len⟩ ⟨_,hs,.inl rfl⟩
  ·exact(hs.2 b (Qt (Qp (Heap.lt_size e) I.ok.above))).trans (I.base.keep b o e n hb hx)
  ·obtain⟨sl,e1⟩:=I.base.slot b o e n hb hx
   exact⟨sl,(hs.2 b (Qt (Qp (Heap.lt_size e) I.ok.above))).trans e1⟩
  ·obtain⟨o',e1⟩:=I.base.there b o e hx
   exact⟨o',(hs.2 b (Qt (Qp (Heap.lt_size e) I.ok.above))).trans e1⟩
  ·by_cases hj:j=i
   ·subst hj
    rw[hi] at e1;cases e1
    rw[QJ hiσ] at e2;cases e2;exact⟨u,r,.inl ⟨hk,by simp⟩⟩
   ·rw[QG (Ne.symm hj)] at e2
    obtain⟨u',r',q⟩:=hl j y v' e1 e2 e3;refine⟨u',r',?_⟩
    rcases q with⟨k,e⟩ | ⟨k,c,e,z⟩
    ·refine .inl ⟨k,?_⟩
     have:y≠x:=fun e=>hj (zGa hN e1 (e ▸ hi))
     simp[this,e]
    ·exact .inr ⟨k,c,e,z.sameBut hs (cne y c e)⟩
  ·obtain⟨w',z⟩:=I.cell y c e
   exact⟨w',z.sameBut hs (cne y c e)⟩
  ·obtain⟨e,n,ne,nf,d⟩:=I.pin p hp
   exact⟨(hs.2 p.1 ne).trans e,n,ne,nf,d⟩
 ·have hfn:X.fn x=true:=by
   rcases hf with z | z
   ·exact z
   ·rw[z] at hk;cases hk
  obtain⟨c,hc⟩:=I.ok.has x (.inl hk);obtain⟨w',z⟩:=I.cell x c hc;refine wpAny_storeName_cell I.ok.kind hk hc z (fun h' hc' hs=>?_)
  obtain⟨oc,hoc,hocd⟩:=id z;refine h { s with heap:=h' } ⟨I.ok,I.os,I.bare,⟨fun b o e n hb hx=>?_,fun b o e n hb hx=>?_,I.base.free,fun b o e hx=>?_,I.base.tups,I.base.frzs,I.base.tbls⟩,⟨m,hn.sameBut hs (Ne.symm (cne x c hc)),fun j y v' e1 e2 e3=>?_⟩,fun y c' e=>?_,I.free,I.freeC,fun p hp=>?_,tracked ⟨oc,hoc,I.freeC x c hc⟩ hs,by simpa using I.len⟩ ⟨c,hs,.inr hc⟩
  ·exact(hs.2 b (Qt (Qp (Heap.lt_size e) (I.ok.cab x c hfn hc)))).trans (I.base.keep b o e n hb hx)
  ·obtain⟨sl,e1⟩:=I.base.slot b o e n hb hx
   exact⟨sl,(hs.2 b (Qt (Qp (Heap.lt_size e) (I.ok.cab x c hfn hc)))).trans e1⟩
  ·obtain⟨o',e1⟩:=I.base.there b o e hx
   exact⟨o',(hs.2 b (Qt (Qp (Heap.lt_size e) (I.ok.cab x c hfn hc)))).trans e1⟩
  ·by_cases hj:j=i
   ·subst hj
    rw[hi] at e1;cases e1
    rw[QJ hiσ] at e2;cases e2;exact⟨u,r,.inr ⟨.inl hk,c,hc,hc'⟩⟩
   ·rw[QG (Ne.symm hj)] at e2
    obtain⟨u',r',q⟩:=hl j y v' e1 e2 e3;refine⟨u',r',?_⟩
    rcases q with q | ⟨k,c',e,z'⟩
    ·exact .inl q
    ·refine .inr ⟨k,c',e,z'.sameBut hs ?_⟩
     rintro rfl
     exact hj (zGa hN e1 (I.ok.inj _ _ _ e hc ▸ hi))
  ·by_cases hcc:c'=c
   ·subst hcc;exact⟨_,hc'⟩
   ·obtain⟨w2,z2⟩:=I.cell y c' e
    exact⟨w2,z2.sameBut hs hcc⟩
  ·obtain⟨e,n,ne,nf,d⟩:=I.pin p hp
   refine⟨(hs.2 p.1 ?_).trans e,n,ne,nf,d⟩
   intro q;rw[q,hoc] at e;have q':oc=p.2:=QP e;exact d w' (by rw[<-q'];exact hocd)
theorem uI{M:Model}{A:Around}{E:Value->Shared->Prop}{i:Nat}{x:Str}{v:V}{u:Value}{Q:Unit->Shared->Prop}(I:Inv X pins σ H s)(hN:X.N.Nodup)(hi:X.N[i]?=some x)(hx:Loc X.env.scope x)(r:dI v u)
  (h:∀ s',Inv X pins (σ.set i (some v)) H s'->Q () s') (hf:X.fn x=true∨X.env.scope.names.lookup x=some .local:=by first | exact .inl rfl | exact .inr rfl | assumption):wpAny M A (storeName X.env x u) Q E s:=
 zDn I hN hi hx r (fun s' I' _=>h s' I') hf
theorem Inv.call'{s':Shared}{ch:List Addr}(I:Inv X pins σ H s)(ho:s'.os=s.os)(u:Un (frs X.stack) ch H H' s.heap s'.heap)(hok:HOk X.prog X.w H' s'.heap)(hg:AllBare s'.gens)
  (hch:∀ b∈ch,(b∈X.ex∨X.s₀.heap.objs.size<=b)/\b≠X.env.locals/\(∀ x c,X.env.cells.lookup x=some c->c≠b)/\∀ p∈X.pn++pins,p.1≠b):Inv X pins σ H' s':=by
 obtain⟨h',g',d',t',o'⟩:=s';have e:o'=s.os:=ho;subst e;exact I.call (g':=g') (t':=t') (d':=d') u hok hg hch
end
abbrev XK:=Value->Option Addr->Hp->Prop
abbrev St:=List (Option V)
abbrev VK:=V->Hp->Prop
abbrev TE:=St->Hp->VK->Prop
abbrev TT:=St->Hp->(Bool->Hp->Prop)->Prop
abbrev TA:=St->Hp->(List V->Hp->Prop)->Prop
structure Ends where
 nx:St->Hp->Prop
 rt:VK
 bk:St->Hp->Prop:=fun _ _=>False
 ct:St->Hp->Prop:=fun _ _=>False
abbrev TS:=Ends->St->Hp->Prop
def EP(X:Cx)(pins:List (Addr×Obj))(σ:St)(Q:VK)(u:Value)(s':Shared):Prop:=∃ v H',Inv X pins σ H' s'/\dI v u/\Q v H'
def TP(X:Cx)(pins:List (Addr×Obj))(σ:St)(Q:Bool->Hp->Prop)(b:Bool)(s':Shared):Prop:=∃ H',Inv X pins σ H' s'/\Q b H'
def AP(X:Cx)(pins:List (Addr×Obj))(σ:St)(Q:List V->Hp->Prop)(us:List Value)(s':Shared):Prop:=∃ vs H',Inv X pins σ H' s'/\dW vs us/\Q vs H'
def SP(X:Cx)(pins:List (Addr×Obj))(D:Ends)(f:Flow)(s':Shared):Prop:=
 match f with
 | .next=>∃ σ' H',Inv X pins σ' H' s'/\D.nx σ' H'
 | .brk=>∃ σ' H',Inv X pins σ' H' s'/\D.bk σ' H'
 | .cont=>∃ σ' H',Inv X pins σ' H' s'/\D.ct σ' H'
 | .ret u=>∃ v σ' H',Inv X pins σ' H' s'/\dI v u/\D.rt v H'
def PE(X:Cx)(e:Expr)(t:TE):Prop:=
 ∀(pins:List (Addr×Obj))(s:Shared)(σ:St)(H:Hp)(Q:VK),Inv X pins σ H s->t σ H Q->wpAny (model X.prog X.w) X.A (eval e X.env) (EP X pins σ Q) X.xe s
def PT(X:Cx)(e:Expr)(t:TT):Prop:=
 ∀(pins:List (Addr×Obj))(s:Shared)(σ:St)(H:Hp)(Q:Bool->Hp->Prop),Inv X pins σ H s->t σ H Q->wpAny (model X.prog X.w) X.A (isTrue e X.env (eval e X.env)) (TP X pins σ Q) X.xe s
def PW(X:Cx)(e:Expr)(t:TT):Prop:=
 ∀(whole:Sem Value)(pins:List (Addr×Obj))(s:Shared)(σ:St)(H:Hp)(Q:Bool->Hp->Prop),Inv X pins σ H s->t σ H Q->wpAny (model X.prog X.w) X.A (isTrue e X.env whole) (TP X pins σ Q) X.xe s
theorem PW.pt{X:Cx}{e:Expr}{t:TT}(h:PW X e t):PT X e t:=h _
def PA(X:Cx)(es:List Expr)(t:TA):Prop:=
 ∀(pos:Pos)(pins:List (Addr×Obj))(s:Shared)(σ:St)(H:Hp)(Q:List V->Hp->Prop),Inv X pins σ H s->t σ H Q->wpAny (model X.prog X.w) X.A (spliced (backTo pos (starEach es X.env))) (AP X pins σ Q) X.xe s
def PS(X:Cx)(st:Stmt)(t:TS):Prop:=
 ∀(pins:List (Addr×Obj))(s:Shared)(σ:St)(H:Hp)(D:Ends),Inv X pins σ H s->t D σ H->wpAny (model X.prog X.w) X.A (exec st X.env) (SP X pins D) X.xe s
def PSs(X:Cx)(st:List Stmt)(t:TS):Prop:=
 ∀(pins:List (Addr×Obj))(s:Shared)(σ:St)(H:Hp)(D:Ends),Inv X pins σ H s->t D σ H->wpAny (model X.prog X.w) X.A (execs st X.env) (SP X pins D) X.xe s
theorem thn{α:Type}{t:Sem α}{Q Q':α->Shared->Prop}{M:Model}{A:Around}{E:Value->Shared->Prop}{s:Shared}(h:wpAny M A t Q E s)(hQ:∀ a s,Q a s->Q' a s):wpAny M A t Q' E s:=wpAny_mono h hQ fun _ _ x=>x
section
variable{X:Cx}
theorem bin{a b:Expr}{ta tb:TE}(ha:PE X a ta)(hb:PE X b tb){pins:List (Addr×Obj)}{s:Shared}{σ:St}{H:Hp}{R:V->V->Hp->Prop}(I:Inv X pins σ H s)(h:ta σ H fun x H1=>tb σ H1 fun y H2=>R x y H2)
  {α:Type} {Q:α->Shared->Prop} {f:Value->Value->Sem α}
  (hf:∀ v u s2 x y H2,Inv X pins σ H2 s2->dI x v->dI y u->R x y H2->wpAny (model X.prog X.w) X.A (f v u) Q X.xe s2):
  wpAny (model X.prog X.w) X.A (eval a X.env) (fun v s₁=>wpAny (model X.prog X.w) X.A (eval b X.env) (fun u s₂=>wpAny (model X.prog X.w) X.A (f v u) Q X.xe s₂) X.xe s₁) X.xe s:=by
 refine thn (ha pins s σ H _ I h) fun v s1 ⟨x,H1,I1,r1,q1⟩=>?_
 refine thn (hb pins s1 σ H1 _ I1 q1) fun u s2 ⟨y,H2,I2,r2,q2⟩=>?_
 exact hf v u s2 x y H2 I2 r1 r2 q2
abbrev zFO(i:Nat):TE:=fun σ H Q=>∃ v,σ[i]?=some (some v)/\Q v H
abbrev tC(v:V):TE:=fun _ H Q=>Q v H
theorem vT{i:Nat}{x:Str}{pos:Pos}(hN:X.N[i]?=some x)(hv:Vis X.env.scope x)(hd:(x==("__debug__" : Str))=false:=by decide)(hcd:(x==("__classdict__" : Str))=false:=by decide):PE X (.Name x pos) (zFO i):=by
 intro pins s σ H Q I h;obtain⟨v,e,h⟩:=h;obtain⟨m,hn,hl⟩:=I.loc;obtain⟨u,r,l⟩:=hl i x v hN e hv;have fin:EP X pins σ Q u s:=⟨v,H,I,r,h⟩;rcases l with⟨hk,hm⟩ | ⟨hk,c,hc,hcell⟩
 ·exact wpAny_Name (wpAny_loadName_local I.ok.kind hk hn hm fin) hd
 ·rcases hk with hk | hk
  ·exact wpAny_Name (wpAny_loadName_cell I.ok.kind hk hc hcell fin) hd
  ·exact wpAny_Name (wpAny_loadName_free I.ok.kind hk hc hcell fin hcd) hd
theorem zJS{i j pos}:PE X (.Constant (.int i) j pos) (tC (.int i)):=fun _ _ _ H _ I h=>wpAny_Constant_int ⟨.int i,H,I.tok _,⟨_,rfl⟩,h⟩
theorem zBF{b j pos}:PE X (.Constant (.bool b) j pos) (tC (.bl b)):=fun _ _ _ H _ I h=>Constant_bool ⟨.bl b,H,I,rfl,h⟩
theorem cJ{x j pos}:PE X (.Constant (.str x) j pos) (tC (.str x)):=fun _ _ _ H _ I h=>Calls.Constant_str ⟨.str x,H,I.tok _,⟨_,rfl⟩,h⟩
def Gl(X:Cx)(x:Str):Prop:=X.env.kindOf x=some .globalImplicit
theorem zEG{E:Value->Shared->Prop}{pins:List (Addr×Obj)}{s:Shared}{σ:St}{H:Hp}{x:Str}{u:Value}{pos:Pos}{Q:Value->Shared->Prop}(I:Inv X pins σ H s)(hg:Gl X x)(hm:X.mg x=some u)(h:Q u s)
  (hd:(x==("__debug__" : Str))=false:=by decide):wpAny (model X.prog X.w) X.A (eval (.Name x pos) X.env) Q E s:=
 Calls.Name_function_global I.ok.kind hg (Calls.loadGlobal_global (by rw[I.ok.glob];exact I.mod.glob.keeps I.bk) hm h) hd
theorem pU{E:Value->Shared->Prop}{pins:List (Addr×Obj)}{s:Shared}{σ:St}{H:Hp}{x:Str}{u:Value}{pos:Pos}{Q:Value->Shared->Prop}(I:Inv X pins σ H s)(hg:Gl X x)(hm:X.mg x=none)(hv:bootBuiltins x=some u)(h:Q u s)
  (hn:x ≠ "__name__" := by decide) (hd:(x==("__debug__" : Str))=false:=by decide):wpAny (model X.prog X.w) X.A (eval (.Name x pos) X.env) Q E s:=by
 obtain⟨mb,h1,h2⟩:=I.mod.blt;exact Calls.Name_function_global I.ok.kind hg (Calls.loadGlobal_builtin (by rw[I.ok.glob];exact I.mod.glob.keeps I.bk) hm (by rw[I.ok.blt];exact h1.keeps I.bk) ((h2 x hn).trans hv) h) hd
theorem zKb{x:Str}{v:V}{u:Value}{pos:Pos}(hg:Gl X x)(hm:X.mg x=some u)(r:dI v u)(hd:(x==("__debug__" : Str))=false:=by decide):PE X (.Name x pos) (tC v):=
 fun _ _ _ H _ I h=>zEG I hg hm ⟨v,H,I,r,h⟩ hd
theorem rX{x:Str}{v:V}{u:Value}{pos:Pos}(hg:Gl X x)(hm:X.mg x=none)(hv:bootBuiltins x=some u)(r:dI v u)(hn:x ≠ "__name__" := by decide)(hd:(x==("__debug__" : Str))=false:=by decide):PE X (.Name x pos) (tC v):=
 fun _ _ _ H _ I h=>pU I hg hm hv ⟨v,H,I,r,h⟩ hn hd
variable{a b:Expr}{ta tb:TE}{pos:Pos}
def PC(X:Cx)(op:CmpOp)(a b:Expr)(t:TE):Prop:=
 ∀(pins:List (Addr×Obj))(s:Shared)(σ:St)(H:Hp)(Q:VK),Inv X pins σ H s->t σ H Q->
  wpAny (model X.prog X.w) X.A (eval a X.env) (fun v s₁=>wpAny (model X.prog X.w) X.A (eval b X.env) (fun u s₂=>wpAny (model X.prog X.w) X.A (compareOp op v u) (EP X pins σ Q) X.xe s₂) X.xe s₁) X.xe s
theorem zKz(b:Expr){op:CmpOp}(h:op≠.In)(h2:op≠.NotIn):behindInMarks op b=false:=by
 have e1:(op==CmpOp.In)=false:=by cases op<;>first | rfl | exact absurd rfl h
 have e2:(op==CmpOp.NotIn)=false:=by cases op<;>first | rfl | exact absurd rfl h2
 cases b<;>simp[behindInMarks,e1,e2]
abbrev tB(t:TE):TT:=fun σ H Q=>t σ H fun x H1=>∃ c,x=.bl c/\Q c H1
theorem zSe{op:CmpOp}{t:TE}(h:PC X op a b t)(h1:behindInMarks op b=false:=by first | exact zKz _ (by decide) (by decide) | rfl):PT X (.Compare a [op] [b] pos) (tB t):=by
 intro pins s σ H Q I hw;refine wpAny_isTrue_Compare1 (thn (h pins s σ H _ I hw) fun v s1 h1=>thn h1 fun u s2 h2=>thn h2 fun c s3 ⟨x,H1,I1,r1,q1⟩=>?_) h1
 obtain⟨d,rfl,q⟩:=q1;cases r1;exact wpAny_truthy_bool ⟨H1,I1,q⟩
theorem zQj{e:Expr}{t:TE}(h:PE X e t)(he:∀ whole,isTrue e X.env whole=(do let v <-whole;standAt e.pos;holding [v] (truthy v)):=by intro _;rfl):PT X e (tB t):=by
 intro pins s σ H Q I hw;refine isTrue_plain (thn (h pins s σ H _ I hw) fun v s1 ⟨x,H1,I1,r1,q1⟩=>?_) (he _)
 obtain⟨d,rfl,q⟩:=q1;cases r1;exact wpAny_truthy_bool ⟨H1,I1,q⟩
variable{tA tB':TT}{rest:List Expr}
abbrev zTg(t u:TT):TT:=fun σ H Q=>t σ H fun c H1=>if c=true then u σ H1 Q else Q false H1
abbrev tOr(t u:TT):TT:=fun σ H Q=>t σ H fun c H1=>if c=true then Q true H1 else u σ H1 Q
abbrev zSG(t:TT):TT:=fun σ H Q=>t σ H fun c H1=>Q (!c) H1
theorem zOx(ha:PT X a tA):PW X (.BoolOp .And [a] pos) tA:=by
 intro wh pins s σ H Q I h;refine isTrue_and (thn (ha pins s σ H Q I h) fun c s1 e=>?_)
 cases c with
 | true=>exact isTrue_and_nil e
 | false=>exact e
theorem zQI(ha:PT X a tA):PW X (.BoolOp .Or [a] pos) tA:=by
 intro wh pins s σ H Q I h;refine isTrue_or (thn (ha pins s σ H Q I h) fun c s1 e=>?_)
 cases c with
 | false=>exact isTrue_or_nil e
 | true=>exact e
theorem zOV(ha:PT X a tA)(hb:PW X (.BoolOp .And (b::rest) pos) tB'):PW X (.BoolOp .And (a::b::rest) pos) (zTg tA tB'):=by
 intro wh pins s σ H Q I h;refine isTrue_and (thn (ha pins s σ H _ I h) fun c s1 ⟨H1,I1,q1⟩=>?_)
 cases c with
 | true=>exact hb wh pins s1 σ H1 Q I1 q1
 | false=>exact⟨H1,I1,q1⟩
theorem zRF(ha:PT X a tA)(hb:PW X (.BoolOp .Or (b::rest) pos) tB'):PW X (.BoolOp .Or (a::b::rest) pos) (tOr tA tB'):=by
 intro wh pins s σ H Q I h;refine isTrue_or (thn (ha pins s σ H _ I h) fun c s1 ⟨H1,I1,q1⟩=>?_)
 cases c with
 | true=>exact⟨H1,I1,q1⟩
 | false=>exact hb wh pins s1 σ H1 Q I1 q1
theorem zQV(ha:PT X a tA):PT X (.UnaryOp .Not a pos) (zSG tA):=by
 intro pins s σ H Q I h;exact isTrue_not (ha pins s σ H (fun c H1=>Q (!c) H1) I h)
abbrev zRA(ta tb:TE):TE:=fun σ H Q=>ta σ H fun x H1=>∃ c,x=.bl c/\if c=true then tb σ H1 Q else Q (.bl false) H1
abbrev zTb(ta tb:TE):TE:=fun σ H Q=>ta σ H fun x H1=>∃ c,x=.bl c/\if c=true then Q (.bl true) H1 else tb σ H1 Q
theorem zQF{op}{t:TE}(h:PE X a t):PE X (.BoolOp op [a] pos) t:=fun pins s σ H Q I hw=>BoolOp_one (h pins s σ H Q I hw)
theorem zPz(ha:PE X a ta)(hb:PE X (.BoolOp .And (b::rest) pos) tb):PE X (.BoolOp .And (a::b::rest) pos) (zRA ta tb):=by
 intro pins s σ H Q I h;refine BoolOp_and (thn (ha pins s σ H _ I h) fun v s1 ⟨x,H1,I1,r1,q1⟩=>?_)
 obtain⟨c,rfl,q1⟩:=q1;cases r1;refine wpAny_truthy_bool ?_
 cases c with
 | true=>exact hb pins s1 σ H1 Q I1 q1
 | false=>exact⟨.bl false,H1,I1,rfl,q1⟩
theorem zSa(ha:PE X a ta)(hb:PE X (.BoolOp .Or (b::rest) pos) tb):PE X (.BoolOp .Or (a::b::rest) pos) (zTb ta tb):=by
 intro pins s σ H Q I h;refine BoolOp_or (thn (ha pins s σ H _ I h) fun v s1 ⟨x,H1,I1,r1,q1⟩=>?_)
 obtain⟨c,rfl,q1⟩:=q1;cases r1;refine wpAny_truthy_bool ?_
 cases c with
 | false=>exact hb pins s1 σ H1 Q I1 q1
 | true=>exact⟨.bl true,H1,I1,rfl,q1⟩
abbrev tIf(t:TT)(ta tb:TE):TE:=fun σ H Q=>t σ H fun c H1=>if c=true then ta σ H1 Q else tb σ H1 Q
theorem zKs{c:Expr}(hc:PT X c tA)(ha:PE X a ta)(hb:PE X b tb):PE X (.IfExp c a b pos) (tIf tA ta tb):=by
 intro pins s σ H Q I h;refine wpAny_IfExp (thn (hc pins s σ H _ I h) fun d s1 ⟨H1,I1,q1⟩=>?_)
 cases d with
 | true=>exact ha pins s1 σ H1 Q I1 q1
 | false=>exact hb pins s1 σ H1 Q I1 q1
end
def SqL(K:PySem.W.Frag)(H:Hp)(a:Addr)(xs:List V):Prop:=
 Rd H a (.lst xs)∨
  ∃(o:Obj)(its:Array Value)(n:Nat),K.lookup a=some o/\o.cls=.type "list" /\ o.dict=none/\o.data=.seq its n/\its.size<=sizeLine/\dW xs its.toList
def SqT(K:PySem.W.Frag)(H:Hp)(a:Addr)(xs:List V):Prop:=
 Rd H a (.tup xs)∨
  ∃(o:Obj)(its:Array Value)(n:Nat),K.lookup a=some o/\o.cls=.type "tuple" /\ o.data=.seq its n/\its.size<=sizeLine/\dW xs its.toList
def zSI:Value->Option V
 | .none=>some .non
 | .bool b=>some (.bl b)
 | .int i _=>some (.int i)
 | .str x _=>some (.str x)
 | .bytes b _=>some (.byt b)
 | .float b _=>some (.flt b)
 | .ref a=>some (.ref a)
 | .type n=>some (.ty n)
 | _=>none
theorem dI.abs{x:V}{u:Value}(r:dI x u):zSI u=some x:=by
 cases x with
 | non=>cases r;rfl
 | bl _=>cases r;rfl
 | int _=>obtain⟨t,rfl⟩:=r;rfl
 | str _=>obtain⟨t,rfl⟩:=r;rfl
 | byt _=>obtain⟨t,rfl⟩:=r;rfl
 | flt _=>obtain⟨t,rfl⟩:=r;rfl
 | ref _=>cases r;rfl
 | ty _=>cases r;rfl
theorem dI.inj{x y:V}{u:Value}(r:dI x u)(q:dI y u):x=y:=QP (r.abs.symm.trans q.abs)
theorem dW.inj:∀ {xs ys:List V} {us:List Value},dW xs us->dW ys us->xs=ys
 | _,_,_,.nil,.nil=>rfl
 | _,_,_,.cons r t,.cons r' t'=>by rw[r.inj r',dW.inj t t']
section
variable{X:Cx}{pins:List (Addr×Obj)}{σ:St}{H:Hp}{s:Shared}{a:Addr}{xs ys:List V}
theorem SqL.of{K:Fg_}(h:H a=some (.lst xs)):SqL K H a xs:=.inl (.inl h)
theorem SqT.of{K:Fg_}(h:H a=some (.tup xs)):SqT K H a xs:=.inl (.inl h)
theorem Inv.list(I:Inv X pins σ H s)(h:SqL X.K H a xs):∃ its:List Value,dW xs its/\PlainL s.heap a its.toArray/\xs.length<=sizeLine:=by
 rcases h with h | ⟨o,its,n,hk,hc,hd,hs,hz,r⟩
 ·obtain⟨z,its,n,r,e⟩:=h.ok I.hok
  exact⟨its,r,⟨_,n,e,rfl,rfl,rfl⟩,z⟩
 ·refine⟨its.toList,r,⟨o,n,I.kIn a o hk,hc,hd,by simpa using hs⟩,?_⟩
  have e:=r.length;simp only[VT] at e;omega
theorem Inv.tuple(I:Inv X pins σ H s)(h:SqT X.K H a xs):∃ its:List Value,dW xs its/\IsTup s.heap a its.toArray/\xs.length<=sizeLine:=by
 rcases h with h | ⟨o,its,n,hk,hc,hs,hz,r⟩
 ·obtain⟨z,its,r,p⟩:=h.ok I.hok
  exact⟨its,r,p,z⟩
 ·refine⟨its.toList,r,⟨o,I.kIn a o hk,hc,n,by simpa using hs⟩,?_⟩
  have e:=r.length;simp only[VT] at e;omega
theorem Inv.list_inj(I:Inv X pins σ H s)(h:SqL X.K H a xs)(h':SqL X.K H a ys):xs=ys:=by
 obtain⟨its,r,⟨o,n,e,_,_,d⟩,_⟩:=I.list h;obtain⟨its',r',⟨o',n',e',_,_,d'⟩,_⟩:=I.list h';rw[e] at e';cases e'
 rw[d] at d';injection d' with d1 _
 have:its=its':=by simpa using congrArg Array.toList d1
 subst this;exact r.inj r'
theorem Inv.tuple_inj(I:Inv X pins σ H s)(h:SqT X.K H a xs)(h':SqT X.K H a ys):xs=ys:=by
 obtain⟨its,r,⟨o,e,_,n,d⟩,_⟩:=I.tuple h;obtain⟨its',r',⟨o',e',_,n',d'⟩,_⟩:=I.tuple h';rw[e] at e';cases e'
 rw[d] at d';injection d' with d1 _
 have:its=its':=by simpa using congrArg Array.toList d1
 subst this;exact r.inj r'
end
section
variable{X:Cx}{pins:List (Addr×Obj)}{σ:St}{H:Hp}{s:Shared}{E:Value->Shared->Prop}
end
section
variable{X:Cx}{st:Stmt}{rest:List Stmt}{t u:TS}{e:Expr}{te:TE}{pos:Pos}
abbrev zRN:TS:=fun D σ H=>D.nx σ H
abbrev zRW(t u:TS):TS:=fun D σ H=>t { D with nx:=u D } σ H
theorem zJn:PSs X [] zRN:=fun _ _ σ H _ I h=>wpAny_execs_nil ⟨σ,H,I,h⟩
theorem tZ(h1:PS X st t)(h2:PSs X rest u):PSs X (st::rest) (zRW t u):=by
 intro pins s σ H D I h;refine wpAny_execs_cons (thn (h1 pins s σ H { D with nx:=u D } I h) fun f s1 q=>?_)
 cases f with
 | next=>
  obtain⟨σ',H',I',q⟩:=q;exact h2 pins s1 σ' H' D I' q
 | ret v=>exact q
 | brk=>exact q
 | cont=>exact q
theorem zBL(h1:PS X st t):PSs X [st] t:=by
 intro pins s σ H D I h;refine wpAny_execs_cons (thn (h1 pins s σ H D I h) fun f s1 q=>?_)
 cases f with
 | next=>exact wpAny_execs_nil q
 | ret v=>exact q
 | brk=>exact q
 | cont=>exact q
theorem Inv.quiet{pins:List (Addr×Obj)}{σ:St}{H:Hp}{s:Shared}(I:Inv X pins σ H s):interactive X.env=false:=by simp[interactive,I.ok.kind]
abbrev zRl(te:TE):TS:=fun D σ H=>te σ H fun _ H1=>D.nx σ H1
theorem zBh(he:PE X e te)(hs:swapsWith e none pos.line X.env=pure false:=by rfl):PS X (.Expr e pos) (zRl te):=by
 intro pins s σ H D I h;exact wpAny_Expr_any (thn (he pins s σ H _ I h) fun v s1 ⟨x,H1,I1,r1,q1⟩=>⟨σ,H1,I1,q1⟩) I.quiet hs
abbrev zSq(te:TE):TS:=fun D σ H=>te σ H D.rt
theorem zFY(he:PE X e te):PS X (.Return (some e) pos) (zSq te):=by
 intro pins s σ H D I h;exact wpAny_Return_some (thn (he pins s σ H _ I h) fun v s1 ⟨x,H1,I1,r1,q1⟩=>⟨x,σ,H1,I1,r1,q1⟩)
abbrev zST(c:TT)(t u:TS):TS:=fun D σ H=>c σ H fun b H1=>if b=true then t D σ H1 else u D σ H1
theorem zPv{c:Expr}{a b:List Stmt}{tc:TT}(hc:PT X c tc)(ha:PSs X a t)(hb:PSs X b u):PS X (.If c a b pos) (zST tc t u):=by
 intro pins s σ H D I h;refine wpAny_If (thn (hc pins s σ H _ I h) fun d s1 ⟨H1,I1,q1⟩=>?_)
 cases d with
 | true=>exact ha pins s1 σ H1 D I1 q1
 | false=>exact hb pins s1 σ H1 D I1 q1
def zPF:TS:=fun _ _ _=>False
theorem zHA{sts:List Stmt}:PSs X sts zPF:=fun _ _ _ _ _ _ h=>h.elim
end
abbrev TG:=V->St->Hp->(St->Hp->Prop)->Prop
abbrev TGs:=List V->St->Hp->(St->Hp->Prop)->Prop
def PG(X:Cx)(target:Expr)(t:TG):Prop:=
 ∀(pins:List (Addr×Obj))(s:Shared)(σ:St)(H:Hp)(v:V)(u:Value)(Q:St->Hp->Prop),Inv X pins σ H s->dI v u->t v σ H Q->
  wpAny (model X.prog X.w) X.A (assign target X.env u) (fun _ s'=>∃ σ' H',Inv X pins σ' H' s'/\Q σ' H') X.xe s
def PGs(X:Cx)(ts:List Expr)(t:TGs):Prop:=
 ∀(pins:List (Addr×Obj))(s:Shared)(σ:St)(H:Hp)(vs:List V)(us:List Value)(Q:St->Hp->Prop),Inv X pins σ H s->dW vs us->t vs σ H Q->
  wpAny (model X.prog X.w) X.A (assignInOrder ((assignEach ts X.env).map (·.2)) us) (fun _ s'=>∃ σ' H',Inv X pins σ' H' s'/\Q σ' H') X.xe s
abbrev zRI:=V->V->V->Hp->(Hp->Prop)->Prop
def zSA(X:Cx)(t:zRI):Prop:=
 ∀(pins:List (Addr×Obj))(s:Shared)(σ:St)(H:Hp)(o i v:V)(ov iv u:Value)(Q:Hp->Prop),Inv X pins σ H s->dI o ov->dI i iv->dI v u->t o i v H Q->
  wpAny (model X.prog X.w) X.A (setItem ov iv u) (fun _ s'=>∃ H',Inv X pins σ H' s'/\Q H') X.xe s
abbrev TIp:=V->V->Hp->VK->Prop
def PIp(X:Cx)(op:Operator)(t:TIp):Prop:=
 ∀(pins:List (Addr×Obj))(s:Shared)(σ:St)(H:Hp)(x y:V)(v u:Value)(Q:VK),Inv X pins σ H s->dI x v->dI y u->t x y H Q->
  wpAny (model X.prog X.w) X.A (inplaceOp op v u) (EP X pins σ Q) X.xe s
section
variable{X:Cx}{pos:Pos}
abbrev gName(i:Nat):TG:=fun v σ H Q=>Q (σ.set i (some v)) H
theorem vY{i:Nat}{x:Str}(hN:X.N.Nodup)(hi:X.N[i]?=some x)(hx:Loc X.env.scope x)(hf:X.fn x=true∨X.env.scope.names.lookup x=some .local:=by first | exact .inl rfl | exact .inr rfl | assumption):PG X (.Name x pos) (gName i):=by
 intro pins s σ H v u Q I r h;exact wpAny_assign_Name (uI I hN hi hx r (fun s' I'=>⟨_,H,I',h⟩) hf)
def zHv:TGs:=fun vs σ H Q=>vs=[]/\Q σ H
def oH(t:TG)(u:TGs):TGs:=fun vs σ H Q=>∃ v r,vs=v::r/\t v σ H fun σ' H'=>u r σ' H' Q
theorem zDV:PGs X [] zHv:=by
 intro pins s σ H vs us Q I r h;obtain⟨e,h⟩:=h;subst e;cases r;exact assignInOrder_nil ⟨σ,H,I,h⟩
theorem qI{e:Expr}{es:List Expr}{t:TG}{u:TGs}(h1:PG X e t)(h2:PGs X es u)
  (hs:(assignEach (e::es) X.env).map (·.2)=assign e X.env::(assignEach es X.env).map (·.2):=by rfl):PGs X (e::es) (oH t u):=by
 intro pins s σ H vs us Q I r h;obtain⟨v,vr,e1,h⟩:=h;subst e1
 cases r with
 | cons r rr=>
  rw[hs];refine assignInOrder_cons (thn (h1 pins s σ H _ _ _ I r h) fun _ s1 ⟨σ1,H1,I1,q1⟩=>?_)
  exact h2 pins s1 σ1 H1 _ _ Q I1 rr q1
def zIY(K:PySem.W.Frag)(n:Nat)(t:TGs):TG:=fun v σ H Q=>∃ a xs,v=.ref a/\SqT K H a xs/\xs.length=n/\t xs σ H Q
theorem zJY{es:List Expr}{k:Nat}{t:TGs}{n:Nat}(hc:X.calm=true)(h:PGs X es t)
  (hn:(assignEach es X.env).length=n:=by rfl) (hst:(assignEach es X.env).findIdx? (·.1)=none:=by rfl):PG X (.Tuple es k pos) (zIY X.K n t):=by
 intro pins s σ H v u Q I r hw;obtain⟨a,xs,e1,hq,hl,hw⟩:=hw;subst e1;cases r;obtain⟨its,rv,ht,hz⟩:=I.tuple hq;refine assign_Tuple_tuple (I.ok.hd hc) ht (by simp[hn,<-hl,rv.length]) hst fun h' hx=>?_
 have I1:Inv X pins σ H { s with heap:=h' }:=I.kept (t':=s.toks) fun b o e=>hx b o (Qt (Heap.lt_size e)) e
 exact h pins _ σ H xs _ Q I1 (by simpa using rv) hw
def zTe(to ti:TE)(t:zRI):TG:=fun v σ H Q=>to σ H fun o H1=>ti σ H1 fun i H2=>t o i v H2 fun H3=>Q σ H3
theorem zQE{o i:Expr}{to ti:TE}{t:zRI}(ho:PE X o to)(hi:PE X i ti)(hs:zSA X t)
  (ha:∀ v,assign (.Subscript o i pos) X.env v=(do
   let ov <-holding [v] (eval o X.env)
   let iv <-holding [v,ov] (eval i X.env)
   standAt pos
   holding [v,ov,iv] (setItem ov iv v)
   release [v,ov,iv] []):=by intro _;rfl):PG X (.Subscript o i pos) (zTe to ti t):=by
 intro pins s σ H v u Q I r h;rw[ha];refine wpAny_bind (wpAny_holding (thn (ho pins s σ H _ I h) fun ov s1 ⟨x,H1,I1,r1,q1⟩=>?_))
 refine wpAny_bind (wpAny_holding (thn (hi pins s1 σ H1 _ I1 q1) fun iv s2 ⟨y,H2,I2,r2,q2⟩=>?_))
 refine wpAny_bind (wpAny_standAt (wpAny_bind (wpAny_holding (thn (hs pins s2 σ H2 x y v ov iv u _ I2 r1 r2 r q2) fun _ s3 ⟨H3,I3,q3⟩=>?_))))
 exact wpAny_release ⟨σ,H3,I3,q3⟩
abbrev zRr(te:TE)(g:TG):TS:=fun D σ H=>te σ H fun x H1=>g x σ H1 D.nx
theorem zQq{tg e:Expr}{te:TE}{g:TG}(he:PE X e te)(hg:PG X tg g)(hs:swapsWithSole [tg] e pos.line X.env=pure false:=by rfl)(hw:swappedStores [tg] e X.env=pure none:=by rfl)
  (h1:(assignEach [tg] X.env).map (·.2)=[assign tg X.env]:=by rfl):PS X (.Assign [tg] e pos) (zRr te g):=by
 intro pins s σ H D I h;refine wpAny_Assign_stores (thn (he pins s σ H _ I h) fun v s1 ⟨x,H1,I1,r1,q1⟩=>?_) hs hw
 rw[h1];exact thn (hg pins s1 σ H1 x v _ I1 r1 q1) fun _ s2 q=>q
theorem zLN{i:Nat}{x:Str}{e:Expr}{te:TE}{pos':Pos}(hN:X.N.Nodup)(hi:X.N[i]?=some x)(hx:Loc X.env.scope x)(he:PE X e te)(hs:swapsWith e (some (.Name x pos')) pos.line X.env=pure false:=by rfl)(hf:X.fn x=true∨X.env.scope.names.lookup x=some .local:=by first | exact .inl rfl | exact .inr rfl | assumption):
  PS X (.Assign [.Name x pos'] e pos) (zRr te (gName i)):=by
 intro pins s σ H D I h;refine wpAny_Assign_Name (thn (he pins s σ H _ I h) fun v s1 ⟨y,H1,I1,r1,q1⟩=>?_) hs
 exact uI I1 hN hi hx r1 (fun s2 I2=>⟨_,H1,I2,q1⟩) hf
abbrev zSL(i:Nat)(te:TE)(ti:TIp):TS:=fun D σ H=>∃ x,σ[i]?=some (some x)/\te σ H fun y H1=>ti x y H1 fun z H2=>D.nx (σ.set i (some z)) H2
theorem zQm{i:Nat}{x:Str}{e:Expr}{te:TE}{op:Operator}{ti:TIp}{pos':Pos}(hN:X.N.Nodup)(hi:X.N[i]?=some x)(hx:Loc X.env.scope x)(he:PE X e te)(ho:PIp X op ti)(hf:X.fn x=true∨X.env.scope.names.lookup x=some .local:=by first | exact .inl rfl | exact .inr rfl | assumption):
  PS X (.AugAssign (.Name x pos') op e pos) (zSL i te ti):=by
 intro pins s σ H D I h;obtain⟨v,e1,h⟩:=h;obtain⟨m,hn,hl⟩:=I.loc;have vis:Vis X.env.scope x:=by rcases hx with k | k;exact .inl k;exact .inr (.inl k)
 obtain⟨u,r,l⟩:=hl i x v hi e1 vis;refine wpAny_AugAssign_Name ?_
 have go:wpAny (model X.prog X.w) X.A (eval e X.env) (fun w s₂=>wpAny (model X.prog X.w) X.A (inplaceOp op u w) (fun r s₃=>wpAny (model X.prog X.w) X.A (storeName X.env x r) (fun _=>SP X pins D .next) X.xe s₃) X.xe s₂) X.xe s:=by
  refine thn (he pins s σ H _ I h) fun w s1 ⟨y,H1,I1,r1,q1⟩=>?_
  refine thn (ho pins s1 σ H1 v y u w _ I1 r r1 q1) fun z s2 ⟨zv,H2,I2,r2,q2⟩=>?_
  exact uI I2 hN hi hx r2 (fun s3 I3=>⟨_,H2,I3,q2⟩) hf
 rcases l with⟨hk,hm⟩ | ⟨hk,c,hc,hcell⟩
 ·exact wpAny_loadName_local I.ok.kind hk hn hm go
 ·rcases hk with hk | hk
  ·exact wpAny_loadName_cell I.ok.kind hk hc hcell go
  ·rcases hx with k | k
   ·have:X.env.scope.names.lookup x=some .free:=hk
    rw[k] at this;cases this
   ·have:X.env.scope.names.lookup x=some .free:=hk
    rw[k] at this;cases this
def ipI(f:Int->Int->Int):TIp:=fun x y H Q=>∃ i j,x=.int i/\y=.int j/\Q (.int (f i j)) H
theorem zFC:PIp X .Add (ipI fun i j=>i+j):=by
 intro pins s σ H x y v u Q I r1 r2 h;obtain⟨i,j,e1,e2,q⟩:=h;subst e1;subst e2
 obtain⟨t,rfl⟩:=r1;obtain⟨t',rfl⟩:=r2;exact iadd_int ⟨.int _,H,I.tok _,⟨_,rfl⟩,q⟩
theorem zMn:PIp X .Sub (ipI fun i j=>i-j):=by
 intro pins s σ H x y v u Q I r1 r2 h;obtain⟨i,j,e1,e2,q⟩:=h;subst e1;subst e2
 obtain⟨t,rfl⟩:=r1;obtain⟨t',rfl⟩:=r2;exact isub_int ⟨.int _,H,I.tok _,⟨_,rfl⟩,q⟩
end
section
variable{X:Cx}{pos:Pos}
def zQM(c:TT)(tb:TS):TS:=fun D σ H=>∃ W:Nat->St->Hp->Prop,(∃ m,W m σ H)/\∀ m σ H,W m σ H->
 c σ H fun b H1=>if b=true then ∃ N:St->Hp->Prop,(∀ σ' H',N σ' H'->∃ m',m' < m/\W m' σ' H')/\tb { D with nx:=N,ct:=N,bk:=D.nx } σ H1 else D.nx σ H1
theorem zLh{c:Expr}{body:List Stmt}{tc:TT}{tb:TS}(hp:PassesOwn (model X.prog X.w) X.A X.env X.xe)(hc:PT X c tc)(hb:PSs X body tb):PS X (.While c body [] pos) (zQM tc tb):=by
 intro pins s σ H D I h;obtain⟨W,⟨m0,w0⟩,turn⟩:=h;refine wpAny_While (codeAny_whileLoop (fun n s'=>∃ σ' H',Inv X pins σ' H' s'/\W n σ' H') ?_ m0 ⟨σ,H,I,w0⟩)
 rintro n s1 ⟨σ1,H1,I1,w1⟩
 refine wpAny_passesOwn hp (thn (hc pins s1 σ1 H1 _ I1 (turn n σ1 H1 w1)) fun b s2 ⟨H2,I2,q2⟩=>?_)
 cases b with
 | true=>
  obtain⟨N,hN,q2⟩:=q2;rw[if_pos rfl];refine wpAny_passesOwn hp (thn (hb pins s2 σ1 H2 _ I2 q2) fun f s3 q3=>?_)
  cases f with
  | next=>
   obtain⟨σ3,H3,I3,n3⟩:=q3;obtain⟨m',hm,w3⟩:=hN σ3 H3 n3;exact⟨m',hm,σ3,H3,I3,w3⟩
  | cont=>
   obtain⟨σ3,H3,I3,n3⟩:=q3;obtain⟨m',hm,w3⟩:=hN σ3 H3 n3;exact⟨m',hm,σ3,H3,I3,w3⟩
  | brk=>exact q3
  | ret v=>exact q3
 | false=>
  rw[if_neg Xc];exact wpAny_execs_nil ⟨σ1,H2,I2,q2⟩
end
structure It where
 go:Nat->Hp->Prop
 yld:Nat->Hp->V->Hp->Prop
 stop:Nat->Hp->Prop
def tW(X:Cx)(pins:List (Addr×Obj))(H:Hp)(b:Addr):Prop:=
 H b=none/\b≠X.env.locals/\b∉X.fs/\(b∈X.ex∨X.s₀.heap.objs.size<=b)/\(∀ x c,X.env.cells.lookup x=some c->c≠b)/\∀ p∈X.pn++pins,p.1≠b
theorem Inv.fpOk{X:Cx}{pins:List (Addr×Obj)}{σ:St}{H H':Hp}{s:Shared}{b:Addr}(I:Inv X pins σ H s)(hb:s.heap.objs.size<=b)(hn:H' b=none):tW X pins H' b:=by
 refine⟨hn,Xk (Qp I.lt hb),I.nofs hb,.inr (QD I.sz hb),fun x c e z=>?_,fun p hp z=>?_⟩
 ·obtain⟨v,q⟩:=I.cell x c e
  exact absurd (Qp q.lt (by rw[z];exact hb)) (Vh _)
 ·exact absurd (Qp (Heap.lt_size (I.pin p hp).1) (by rw[z];exact hb)) (Vh _)
structure Turn (P:Program) (w:World) (K:PySem.W.Frag) (tg:Expr) (J:It) (fp:List Addr) (it:Addr) (tn:Nat->Heap->Prop):Prop where
 mem:it∈fp
 obj:∀ i h,tn i h->∀ b∈fp,∃ o,h.get? b=some o/\∀ v,o.data≠.cell v
 keep:∀ i h h',tn i h->(∀ b∈fp,∀ o,h.get? b=some o->h'.get? b=some o)->tn i h'
 item:∀(X:Cx),X.prog=P->X.w=w->X.K=K->X.calm=true->∀(i:Nat)(pins:List (Addr×Obj))(s:Shared)(σ:St)(H:Hp)(E:Value->Shared->Prop),Inv X pins σ H s->(∀ b∈fp,tW X pins H b)->tn i s.heap->J.go i H->
  wpAny (model P w) X.A (pyNext (.ref it)) (fun r s1=>∃ u,r=some u/\
   wpAny (model P w) X.A (letOwnedTupleGo tg (.ref it) u) (fun _ s2=>∃ x H',Inv X pins σ H' s2/\dI x u/\J.yld i H x H'/\tn (i+1) s2.heap/\∀ b∈fp,H' b=none) E s1) E s
 done:∀(X:Cx),X.prog=P->X.w=w->X.K=K->X.calm=true->∀(i:Nat)(pins:List (Addr×Obj))(s:Shared)(σ:St)(H:Hp)(E:Value->Shared->Prop),Inv X pins σ H s->(∀ b∈fp,tW X pins H b)->tn i s.heap->J.stop i H->
  wpAny (model P w) X.A (pyNext (.ref it)) (fun r s1=>r=none/\Inv X pins σ H s1) E s
 self:∀(A:Around)(i:Nat)(s:Shared)(Q:Value->Shared->Prop)(E:Value->Shared->Prop),tn i s.heap->Q (.ref it) s->wpAny (model P w) A (pyIter (.ref it)) Q E s
abbrev TI:=St->Hp->(It->Hp->Prop)->Prop
def PIE(X:Cx)(pins:List (Addr×Obj))(σ:St)(tg:Expr)(R:It->Hp->Prop)(itv:Value)(s2:Shared):Prop:=
 ∃(it:Addr)(fp:List Addr)(tn:Nat->Heap->Prop)(J:It)(H':Hp),itv=.ref it/\Inv X pins σ H' s2/\Turn X.prog X.w X.K tg J fp it tn/\tn 0 s2.heap/\(∀ b∈fp,tW X pins H' b)/\R J H'
def PI(X:Cx)(tg iter:Expr)(wi:TI):Prop:=
 ∀(pins:List (Addr×Obj))(s:Shared)(σ:St)(H:Hp)(R:It->Hp->Prop),Inv X pins σ H s->wi σ H R->
  wpAny (model X.prog X.w) X.A (eval iter X.env) (fun v s1=>wpAny (model X.prog X.w) X.A (pyIter v) (PIE X pins σ tg R) X.xe s1) X.xe s
theorem zLs{M:Model}{A:Around}{E:Value->Shared->Prop}{s:Shared}{tg:Expr}{it:Addr}{u:Value}{o:Obj}{n:String}{vs:Array Value}{Q:Unit->Shared->Prop}(ho:s.heap.get? it=some o)(hc:o.cls=.type n)(hd:o.data=.fields vs)
    (hn:["enumerate","zip","dict_itemiterator","dict_reverseitemiterator","odict_iterator","itertools.zip_longest","itertools.pairwise"].contains n=false) (hQ:Q () s):wpAny M A (letOwnedTupleGo tg (.ref it) u) Q E s:=by
  unfold letOwnedTupleGo
  cases tg<;>first
    | exact wpAny_pure hQ
    | (cases u<;>first
        | exact wpAny_pure hQ
        | (refine wpAny_bind (wpAny_load ho ?_)
           rw[hc,hd];show wpAny M A (if (["enumerate","zip","dict_itemiterator","dict_reverseitemiterator","odict_iterator","itertools.zip_longest","itertools.pairwise"].contains n && vs[0]?==some (rawInt _))=true then _ else _) Q E s
           rw[if_neg (by intro h;rw[hn,Bool.false_and] at h;cases h)]
           exact wpAny_pure hQ))
def Itl(K:PySem.W.Frag)(a:Addr):It:=
 ⟨fun i H=>∃ xs x,SqL K H a xs/\xs[i]?=some x,fun i H x H'=>H'=H/\∀ xs,SqL K H a xs->xs[i]?=some x,fun i H=>∃ xs,SqL K H a xs/\xs.length<=i⟩
def Itt(K:PySem.W.Frag)(a:Addr):It:=
 ⟨fun i H=>∃ xs x,SqT K H a xs/\xs[i]?=some x,fun i H x H'=>H'=H/\∀ xs,SqT K H a xs->xs[i]?=some x,fun i H=>∃ xs,SqT K H a xs/\xs.length<=i⟩
def Itr(lo:Int)(n:Nat):It:=⟨fun i _=>i<n,fun i H x H'=>H'=H/\x=.int (lo+i),fun i _=>n<=i⟩
theorem zCg{P:Program}{w:World}{K:Fg_}{tg:Expr}(a it:Addr):Turn P w K tg (Itl K a) [it] it (fun i h=>h.IsListIter it a i) where
 mem:=by simp
 obj:=fun i h st b hb=>by
  have e:b=it:=by simpa using hb
  subst e;obtain⟨o,e,c,d⟩:=st;exact⟨o,e,fun v z=>by rw[d] at z;cases z⟩
 keep:=fun i h h' st k=>st.at fun o e=>k it (by simp) o e
 item:=by
  intro X hP hw hK hc i pins s σ H E I hf st hg;subst hP hw hK;obtain⟨xs,x,hq,hx⟩:=hg;obtain⟨its,rv,p,hz⟩:=I.list hq;obtain⟨u,hu,ru⟩:=rv.get hx;obtain⟨f0,f1,f2,f3,f4,f5⟩:=hf it (by simp)
  refine wpAny_pyNext_list_item st p.isList (x:=u) (by simpa using hu) fun h' st' sb=>?_
  have I1:Inv X pins σ H { s with heap:=h' }:=I.turned (t':=s.toks) (fun b o hb e=>(sb.2 b hb).trans e) f0 f1 f3 f4 f5
  obtain⟨o,e,c,d⟩:=id st';exact⟨u,rfl,zLs (s:={ s with heap:=h' }) e c d (by decide) ⟨x,H,I1,ru,⟨rfl,fun ys hy=>by rw[I.list_inj hy hq];exact hx⟩,st',fun b hb=>(hf b hb).1⟩⟩
 done:=by
  intro X hP hw hK hc i pins s σ H E I hf st hg;subst hP hw hK;obtain⟨xs,hq,hx⟩:=hg;obtain⟨its,rv,p,hz⟩:=I.list hq;obtain⟨f0,f1,f2,f3,f4,f5⟩:=hf it (by simp)
  have hl:=rv.length;exact wpAny_pyNext_list_end (I.ok.hd hc) st p.isList (by simp;omega) fun h' eb=>⟨rfl,I.turned (t':=s.toks) (fun b o hb e=>eb b o hb e) f0 f1 f3 f4 f5⟩
 self:=fun _ _ _ _ _ st h=>wpAny_pyIter_listiter st h
theorem zGK{P:Program}{w:World}{K:Fg_}{tg:Expr}(a it:Addr):Turn P w K tg (Itt K a) [it] it (fun i h=>h.IsTupleIter it a i) where
 mem:=by simp
 obj:=fun i h st b hb=>by
  have e:b=it:=by simpa using hb
  subst e;obtain⟨o,e,c,d⟩:=st;exact⟨o,e,fun v z=>by rw[d] at z;cases z⟩
 keep:=fun i h h' st k=>st.at fun o e=>k it (by simp) o e
 item:=by
  intro X hP hw hK hc i pins s σ H E I hf st hg;subst hP hw hK;obtain⟨xs,x,hq,hx⟩:=hg;obtain⟨its,rv,p,hz⟩:=I.tuple hq;obtain⟨u,hu,ru⟩:=rv.get hx;obtain⟨f0,f1,f2,f3,f4,f5⟩:=hf it (by simp)
  refine wpAny_pyNext_tuple_item st (show s.heap.IsTuple a its.toArray from p) (x:=u) (by simpa using hu) fun h' st' sb=>?_
  have I1:Inv X pins σ H { s with heap:=h' }:=I.turned (t':=s.toks) (fun b o hb e=>(sb.2 b hb).trans e) f0 f1 f3 f4 f5
  obtain⟨o,e,c,d⟩:=id st';exact⟨u,rfl,zLs (s:={ s with heap:=h' }) e c d (by decide) ⟨x,H,I1,ru,⟨rfl,fun ys hy=>by rw[I.tuple_inj hy hq];exact hx⟩,st',fun b hb=>(hf b hb).1⟩⟩
 done:=by
  intro X hP hw hK hc i pins s σ H E I hf st hg;subst hP hw hK;obtain⟨xs,hq,hx⟩:=hg;obtain⟨its,rv,p,hz⟩:=I.tuple hq;obtain⟨f0,f1,f2,f3,f4,f5⟩:=hf it (by simp)
  have hl:=rv.length;exact wpAny_pyNext_tuple_end (I.ok.hd hc) st (show s.heap.IsTuple a its.toArray from p) (by simp;omega) fun h' eb=>⟨rfl,I.turned (t':=s.toks) (fun b o hb e=>eb b o hb e) f0 f1 f3 f4 f5⟩
 self:=fun _ _ _ _ _ st h=>wpAny_pyIter_tupleiter st h
theorem zGu{P:Program}{w:World}{K:Fg_}{tg:Expr}(it:Addr)(lo:Int)(n:Nat):Turn P w K tg (Itr lo n) [it] it (fun i h=>IsRangeIter h it (lo+(i:Nat)*1) ((n:Int)-(i:Nat)) 1) where
 mem:=by simp
 obj:=fun i h st b hb=>by
  have e:b=it:=by simpa using hb
  subst e
  exact⟨_,st,fun v z=>by
   have z':Data.fields _=Data.cell v:=z
   cases z'⟩
 keep:=fun i h h' st k=>k it (by simp) _ st
 item:=by
  intro X hP hw hK hc i pins s σ H E I hf st hg;subst hP hw hK;obtain⟨f0,f1,f2,f3,f4,f5⟩:=hf it (by simp)
  have W:=Walks.range (prog:=X.prog) (w:=X.w) (I.ok.hd hc) it lo 1 n;refine W.item i s _ _ hg st fun v h' tk hv st' kk=>?_
  obtain⟨t,rfl⟩:=hv;have I1:Inv X pins σ H { s with heap:=h',toks:=tk }:=I.turned (fun b o hb e=>kk b o (by simpa using hb) e) f0 f1 f3 f4 f5
  refine⟨_,rfl,zLs (s:={ s with heap:=h',toks:=tk }) (n := "range_iterator") st' rfl rfl (by decide) ⟨.int (lo+i),H,I1,⟨t,?_⟩,⟨rfl,rfl⟩,st',fun b hb=>(hf b hb).1⟩⟩
  rw[QW]
 done:=by
  intro X hP hw hK hc i pins s σ H E I hf st hg;subst hP hw hK;obtain⟨f0,f1,f2,f3,f4,f5⟩:=hf it (by simp)
  exact wpAny_pyNext_range_end (I.ok.hd hc) st (by have:n<=i:=hg;omega) fun h' eb=>⟨rfl,I.turned (t':=s.toks) (fun b o hb e=>eb b o hb e) f0 f1 f3 f4 f5⟩
 self:=fun _ _ _ _ _ st h=>wpAny_pyIter_rangeiter st h
section
variable{X:Cx}{tg:Expr}
abbrev zRH(K:PySem.W.Frag)(tl:TE):TI:=fun σ H R=>tl σ H fun x H1=>∃ a,x=.ref a/\(∃ xs,SqL K H1 a xs)/\R (Itl K a) H1
theorem zNS{l:Expr}{tl:TE}(hl:PE X l tl):PI X tg l (zRH X.K tl):=by
 intro pins s σ H R I h;refine thn (hl pins s σ H _ I h) fun v s1 ⟨x,H1,I1,r1,q1⟩=>?_
 obtain⟨a,e,⟨xs,hq⟩,q⟩:=q1;subst e;cases r1;obtain⟨its,rv,p,hz⟩:=I1.list hq;refine wpAny_pyIter_list p.isList ?_
 refine⟨s1.heap.objs.size,[s1.heap.objs.size],_,_,H1,rfl,I1.kept (t':=s1.toks) fun b o e=>Heap.get?_push_of_some _ e,zCg a _,⟨_,Heap.get?_push_size _ rfl,rfl,rfl⟩,fun b hb=>?_,q⟩
 have e:b=s1.heap.objs.size:=by simpa using hb
 subst e;exact I1.fpOk (Qg _) (I1.hok.fresh (Qg _))
theorem zFd{pins:List (Addr×Obj)}{σ:St}{H:Hp}{s:Shared}{R:It->Hp->Prop}{E:Value->Shared->Prop}{lo hi:Int}{t u v:Tok}{tk:Nat}(I:Inv X pins σ H s)(h1:-(2^62)<=lo)(h2:lo<2^62)(h3:-(2^62)<=hi)(h4:hi<2^62)
  (q:R (Itr lo (hi-lo).toNat) H):wpAny (model X.prog X.w) X.A (pyIter (.ref s.heap.objs.size)) (PIE X pins σ tg R) E { s with heap:=s.heap.push { cls:=.type "range", data:=.fields #[.int lo t,.int hi u,.int 1 v] },toks:=tk }:=by
 refine wpAny_pyIter_range (IsRange.new ..) (small_one h1 h2 h3 h4) ?_
 have I1:Inv X pins σ H { s with heap:=s.heap.push { cls:=.type "range", data:=.fields #[.int lo t,.int hi u,.int 1 v] },toks:=tk }:=I.kept fun b o e=>Heap.get?_push_of_some _ e
 refine⟨(s.heap.push { cls:=.type "range", data:=.fields #[.int lo t,.int hi u,.int 1 v] }).objs.size,[(s.heap.push { cls:=.type "range", data:=.fields #[.int lo t,.int hi u,.int 1 v] }).objs.size],_,_,H,rfl,
  I1.kept (t':=tk) fun b o e=>Heap.get?_push_of_some _ e,zGu _ lo (hi-lo).toNat,?_,fun b hb=>?_,q⟩
 ·have e1:lo+((0:Nat):Int)*1=lo:=by simp
  have e2:(((hi-lo).toNat:Nat):Int)-((0:Nat):Int)=Builtin.Range.rangeSize lo hi 1:=by rw[rangeSize_one];split<;>omega
  show IsRangeIter _ _ (lo+((0:Nat):Int)*1) ((((hi-lo).toNat:Nat):Int)-((0:Nat):Int)) 1
  rw[e1,e2];exact Heap.get?_push_size _ rfl
 ·have e:b=(s.heap.push { cls:=.type "range", data:=.fields #[.int lo t,.int hi u,.int 1 v] }).objs.size:=by simpa using hb
  subst e;exact I1.fpOk (Qg _) (I1.hok.fresh (Qg _))
abbrev zQ(ta:TA):TI:=fun σ H R=>ta σ H fun vs H1=>∃ j:Int,vs=[.int j]/\-(2^62)<=j/\j<2^62/\R (Itr 0 j.toNat) H1
abbrev zEx(ta:TA):TI:=fun σ H R=>ta σ H fun vs H1=>∃ i j:Int,vs=[.int i,.int j]/\(-(2^62)<=i/\i<2^62/\-(2^62)<=j/\j<2^62)/\R (Itr i (j-i).toNat) H1
theorem zHw{a:Expr}{ta:TA}{p pos:Pos}(hg:Gl X "range")(hm:X.mg "range" = none)(ha:PA X [a] ta)(hs:starEach [a] X.env=[(false,eval a X.env)]:=by rfl):PI X tg (.Call (.Name "range" p) [a] [] pos) (zQ ta):=by
 intro pins s σ H R I h;refine Call_ (pU I hg hm boot_range (VU (thn (ha pos pins s σ H _ I h) fun us s1 ⟨vs,H1,I1,r1,q1⟩=>?_) hs rfl))
 obtain⟨j,e,q1,q2,q⟩:=q1;subst e
 cases r1 with
 | cons r rr=>
  cases rr;obtain⟨t,rfl⟩:=r;exact call_range_1 (zFd I1 (by omega) (by omega) q1 q2 (by simpa using q))
theorem zJE{a b:Expr}{ta:TA}{p pos:Pos}(hg:Gl X "range")(hm:X.mg "range" = none)(ha:PA X [a,b] ta)(hs:starEach [a,b] X.env=[(false,eval a X.env),(false,eval b X.env)]:=by rfl)(hs2:starEach [b] X.env=[(false,eval b X.env)]:=by rfl):
  PI X tg (.Call (.Name "range" p) [a,b] [] pos) (zEx ta):=by
 intro pins s σ H R I h;refine Call_ (pU I hg hm boot_range (VU (thn (ha pos pins s σ H _ I h) fun us s1 ⟨vs,H1,I1,r1,q1⟩=>?_) (by rw[hs,hs2]) (by rw[hs2];rfl)))
 obtain⟨i,j,e,⟨q1,q2,q3,q4⟩,q⟩:=q1;subst e
 cases r1 with
 | cons r rr=>
  cases rr with
  | cons r' rr=>
   cases rr;obtain⟨t,rfl⟩:=r;obtain⟨t',rfl⟩:=r';exact call_range_2 (zFd I1 q1 q2 q3 q4 q)
abbrev zSj(wi:TI)(g:TG)(tb:TS):TS:=fun D σ H=>wi σ H fun J H1=>∃ W:Nat->Nat->St->Hp->Prop,(∃ m,W 0 m σ H1)/\∀ i m σ H,W i m σ H->
 (J.stop i H/\D.nx σ H)∨(J.go i H/\∃ N:St->Hp->Prop,(∀ σ' H',N σ' H'->∃ m',m' < m/\W (i+1) m' σ' H')/\∀ x H',J.yld i H x H'->g x σ H' fun σ2 H2=>tb { D with nx:=N,ct:=N,bk:=D.nx } σ2 H2)
def vJ(fp:List Addr)(h:Heap):List (Addr×Obj):=fp.filterMap fun b=>(h.get? b).map fun o=>(b,o)
theorem fP{fp:List Addr}{h:Heap}{b:Addr}{o:Obj}(hb:b∈fp)(e:h.get? b=some o):(b,o)∈vJ fp h:=Xy.mpr ⟨b,hb,by rw[e];rfl⟩
theorem zIU{fp:List Addr}{h:Heap}{p:Addr×Obj}(hp:p∈vJ fp h):p.1∈fp/\h.get? p.1=some p.2:=by
 obtain⟨b,hb,e⟩:=Xy.mp hp
 cases q:h.get? b with
 | none=>rw[q] at e;cases e
 | some o=>
  rw[q] at e;have e':(b,o)=p:=QP e;subst e';exact⟨hb,q⟩
theorem Inv.pinned{pins:List (Addr×Obj)}{σ:St}{H:Hp}{s:Shared}{fp:List Addr}(I:Inv X pins σ H s)(hf:∀ b∈fp,tW X pins H b)(ho:∀ b∈fp,∃ o,s.heap.get? b=some o/\∀ v,o.data≠.cell v):Inv X (pins++vJ fp s.heap) σ H s:=
 I.pins_of fun p hp=>(QI.mp hp).elim (fun z=>I.pin p (Qz _ z)) fun z=>by
  obtain⟨hb,e⟩:=zIU z;obtain⟨f0,f1,f2,_⟩:=hf p.1 hb;obtain⟨o,e',d⟩:=ho p.1 hb;rw[e] at e';cases e'
  exact⟨e,f0,f1,f2,d⟩
theorem Inv.unpinned{pins pl:List (Addr×Obj)}{σ:St}{H:Hp}{s:Shared}(I:Inv X (pins++pl) σ H s):Inv X pins σ H s:=I.pins_of fun p hp=>I.pin p (Qz _ (Vx _ hp))
theorem zJP{iter:Expr}{body:List Stmt}{wi:TI}{g:TG}{tb:TS}{pos:Pos}(hp:PassesOwn (model X.prog X.w) X.A X.env X.xe)(hc:X.calm=true)(hi:PI X tg iter wi)(hg:PG X tg g)(hb:PSs X body tb)
  (hs:∀ x,foldedSetIterable iter X.env x=pure x:=by intro _;rfl):PS X (.For tg iter body [] pos) (zSj wi g tb):=by
 intro pins s σ H D I h;refine wpAny_For (thn (hi pins s σ H _ I h) fun v s1 h1=>thn h1 fun itv s2 h2=>?_) hs
 obtain⟨it,fp,tn,J,H2,e,I2,T,st2,f2,W,⟨m0,w0⟩,turn⟩:=h2;subst e;have stat:∀ {H':Hp},(∀ b∈fp,H' b=none)->∀ b∈fp,tW X pins H' b:=fun hn b hb=>⟨hn b hb,(f2 b hb).2⟩
 refine codeAny_forLoop_any (fun n s'=>∃ i σ' H',Inv X pins σ' H' s'/\tn i s'.heap/\(∀ b∈fp,H' b=none)/\W i n σ' H') ?_ m0 ⟨0,σ,H2,I2,st2,fun b hb=>(f2 b hb).1,w0⟩
 rintro n s3 ⟨i,σ3,H3,I3,st3,fr3,w3⟩
 rcases turn i n σ3 H3 w3 with⟨stop,qn⟩ | ⟨go,N,hN,step⟩
 ·refine wpAny_passesOwn hp (thn (T.done X rfl rfl rfl hc i pins s3 σ3 H3 X.xe I3 (stat fr3) st3 stop) fun r s4 ⟨hr,I4⟩=>?_)
  subst hr;exact wpAny_execs_nil ⟨σ3,H3,I4,qn⟩
 ·refine wpAny_passesOwn hp (thn (T.item X rfl rfl rfl hc i pins s3 σ3 H3 X.xe I3 (stat fr3) st3 go) fun r s4 ⟨u,hr,h4⟩=>?_)
  subst hr;refine wpAny_passesOwn hp (thn h4 fun _ s5 ⟨x,H5,I5,r5,y5,st5,fr5⟩=>?_)
  have I5':=I5.pinned (stat fr5) (T.obj _ _ st5);refine wpAny_passesOwn hp (thn (hg _ s5 σ3 H5 x u _ I5' r5 (step x H5 y5)) fun _ s6 ⟨σ6,H6,I6,q6⟩=>?_)
  refine wpAny_passesOwn hp (thn (hb _ s6 σ6 H6 _ I6 q6) fun f s7 q7=>?_)
  have again:∀ {σ7:St} {H7:Hp},Inv X (pins++vJ fp s5.heap) σ7 H7 s7->N σ7 H7->∃ m,m<n/\∃ i σ' H',Inv X pins σ' H' s7/\tn i s7.heap/\(∀ b∈fp,H' b=none)/\W i m σ' H':=fun {σ7 H7} I7 n7=>by
   obtain⟨m',hm,w7⟩:=hN σ7 H7 n7;refine⟨m',hm,i+1,σ7,H7,I7.unpinned,T.keep _ _ _ st5 fun b hb o e=>(I7.pin (b,o) (Qz _ (Qz _ (fP hb e)))).1,fun b hb=>?_,w7⟩
   obtain⟨o,e,d⟩:=T.obj _ _ st5 b hb;exact(I7.pin (b,o) (Qz _ (Qz _ (fP hb e)))).2.1
  cases f with
  | next=>obtain⟨σ7,H7,I7,n7⟩:=q7;exact again I7 n7
  | cont=>obtain⟨σ7,H7,I7,n7⟩:=q7;exact again I7 n7
  | brk=>obtain⟨σ7,H7,I7,q7⟩:=q7;exact⟨σ7,H7,I7.unpinned,q7⟩
  | ret v=>obtain⟨x7,σ7,H7,I7,r7,q7⟩:=q7;exact⟨x7,σ7,H7,I7.unpinned,r7,q7⟩
end
abbrev R2:=V->V->Hp->VK->Prop
def OpR(X:Cx)(f:Value->Value->Sem Value)(r:R2):Prop:=
 ∀(pins:List (Addr×Obj))(s:Shared)(σ:St)(H:Hp)(x y:V)(v u:Value)(Q:VK),Inv X pins σ H s->dI x v->dI y u->r x y H Q->
  wpAny (model X.prog X.w) X.A (f v u) (EP X pins σ Q) X.xe s
def UnR(X:Cx)(f:Value->Sem Value)(r:V->Hp->VK->Prop):Prop:=
 ∀(pins:List (Addr×Obj))(s:Shared)(σ:St)(H:Hp)(x:V)(v:Value)(Q:VK),Inv X pins σ H s->dI x v->r x H Q->
  wpAny (model X.prog X.w) X.A (f v) (EP X pins σ Q) X.xe s
def tP(X:Cx)(f:Value)(r:List V->Hp->VK->Prop):Prop:=
 ∀(pins:List (Addr×Obj))(s:Shared)(σ:St)(H:Hp)(xs:List V)(us:List Value)(Q:VK),Inv X pins σ H s->dW xs us->r xs H Q->
  wpAny (model X.prog X.w) X.A (call f us) (EP X pins σ Q) X.xe s
abbrev tOp(r:R2)(ta tb:TE):TE:=fun σ H Q=>ta σ H fun x H1=>tb σ H1 fun y H2=>r x y H2 Q
abbrev tUn(r:V->Hp->VK->Prop)(ta:TE):TE:=fun σ H Q=>ta σ H fun x H1=>r x H1 Q
def rI(C:Int->Int->Prop)(g:Int->Int->V):R2:=fun x y H Q=>∃ i j,x=.int i/\y=.int j/\C i j/\Q (g i j) H
def rI0(g:Int->Int->V):R2:=fun x y H Q=>∃ i j,x=.int i/\y=.int j/\Q (g i j) H
def rU(g:Int->V):V->Hp->VK->Prop:=fun x H Q=>∃ i,x=.int i/\Q (g i) H
section
variable{X:Cx}{a b c:Expr}{ta tb tc:TE}{pos:Pos}
theorem zRw(ha:PE X a ta)(hb:PE X b tb){pins:List (Addr×Obj)}{s:Shared}{σ:St}{H:Hp}{R:V->V->Hp->Prop}(I:Inv X pins σ H s)
  (h:ta σ H fun x H1=>tb σ H1 fun y H2=>R x y H2) {Q:Value->Shared->Prop} {f:Value->Value->Sem Value}
  (hf:∀ v u s2 x y H2,Inv X pins σ H2 s2->dI x v->dI y u->R x y H2->wpAny (model X.prog X.w) X.A (f v u) Q X.xe s2):
  wpAny (model X.prog X.w) X.A (eval a X.env) (fun v s₁=>wpAny (model X.prog X.w) X.A (eval b X.env) (fun u s₂=>wpAny (model X.prog X.w) X.A (f v u) Q X.xe s₂) X.xe s₁) X.xe s:=by
 refine thn (ha pins s σ H _ I h) fun v s1 ⟨x,H1,I1,r1,q1⟩=>?_
 refine thn (hb pins s1 σ H1 _ I1 q1) fun u s2 ⟨y,H2,I2,r2,q2⟩=>?_
 exact hf v u s2 x y H2 I2 r1 r2 q2
theorem zJF{op:Operator}{r:R2}(ho:OpR X (binaryOp op) r)(ha:PE X a ta)(hb:PE X b tb):PE X (.BinOp a op b pos) (tOp r ta tb):=by
 intro pins s σ H Q I h;exact wpAny_BinOp (zRw ha hb I h fun v u s2 x y H2 I2 rx ry q=>ho pins s2 σ H2 x y v u Q I2 rx ry q)
theorem zRR{op:UnaryOp}{r:V->Hp->VK->Prop}(ho:UnR X (unaryOp op) r)(ha:PE X a ta):PE X (.UnaryOp op a pos) (tUn r ta):=by
 intro pins s σ H Q I h;exact UnaryOp_ (thn (ha pins s σ H _ I h) fun v s1 ⟨x,H1,I1,r1,q1⟩=>ho pins s1 σ H1 x v Q I1 r1 q1)
theorem opI{f:Value->Value->Sem Value}{C:Int->Int->Prop}{g:Int->Int->Int}
  (rule:∀(i j:Int)(t u:Tok)(s:Shared)(Q:Value->Shared->Prop)(E:Value->Shared->Prop),C i j->Q (.int (g i j) s.toks) { s with toks:=s.toks+1 }->wpAny (model X.prog X.w) X.A (f (.int i t) (.int j u)) Q E s):
  OpR X f (rI C fun i j=>.int (g i j)):=by
 intro pins s σ H x y v u Q I rx ry h;obtain⟨i,j,rfl,rfl,hc,q⟩:=h;obtain⟨t,rfl⟩:=rx;obtain⟨t',rfl⟩:=ry;exact rule i j t t' s _ _ hc ⟨.int (g i j),H,I.tok _,⟨_,rfl⟩,q⟩
theorem zSf{f:Value->Value->Sem Value}{g:Int->Int->Int}
  (rule:∀(i j:Int)(t u:Tok)(s:Shared)(Q:Value->Shared->Prop)(E:Value->Shared->Prop),Q (.int (g i j) s.toks) { s with toks:=s.toks+1 }->wpAny (model X.prog X.w) X.A (f (.int i t) (.int j u)) Q E s):
  OpR X f (rI0 fun i j=>.int (g i j)):=by
 intro pins s σ H x y v u Q I rx ry h;obtain⟨i,j,rfl,rfl,q⟩:=h;obtain⟨t,rfl⟩:=rx;obtain⟨t',rfl⟩:=ry;exact rule i j t t' s _ _ ⟨.int (g i j),H,I.tok _,⟨_,rfl⟩,q⟩
theorem zSE{f:Value->Value->Sem Value}{g:Int->Int->Bool}
  (rule:∀(i j:Int)(t u:Tok)(s:Shared)(Q:Value->Shared->Prop)(E:Value->Shared->Prop),Q (.bool (g i j)) s->wpAny (model X.prog X.w) X.A (f (.int i t) (.int j u)) Q E s):
  OpR X f (rI0 fun i j=>.bl (g i j)):=by
 intro pins s σ H x y v u Q I rx ry h;obtain⟨i,j,rfl,rfl,q⟩:=h;obtain⟨t,rfl⟩:=rx;obtain⟨t',rfl⟩:=ry;exact rule i j t t' s _ _ ⟨.bl (g i j),H,I,rfl,q⟩
def zRk(i j:Int):Prop:=(-(2^64)<i/\i<2^64)∨(-(2^64)<j/\j<2^64)
theorem zRk.ok{i j:Int}(h:zRk i j):IntMulOk i j:=by
 rcases h with⟨h1,h2⟩ | ⟨h1,h2⟩
 ·exact .of_left (intBits_le_64 h1 h2)
 ·exact .of_right (intBits_le_64 h1 h2)
theorem zQv:OpR X (binaryOp .Add) (rI0 fun i j=>.int (i+j)):=zSf fun _ _ _ _ _ _ _ q=>add_int q
theorem jJ:OpR X (binaryOp .Sub) (rI0 fun i j=>.int (i-j)):=zSf fun _ _ _ _ _ _ _ q=>sub_int q
theorem dE:OpR X (binaryOp .Mod) (rI (fun _ j=>j≠0) fun i j=>.int (i.fmod j)):=opI fun _ _ _ _ _ _ _ hc q=>mod_int' hc q
theorem unI{f:Value->Sem Value}{g:Int->Int}
  (rule:∀(i:Int)(t:Tok)(s:Shared)(Q:Value->Shared->Prop)(E:Value->Shared->Prop),Q (.int (g i) s.toks) { s with toks:=s.toks+1 }->wpAny (model X.prog X.w) X.A (f (.int i t)) Q E s):
  UnR X f (rU fun i=>.int (g i)):=by
 intro pins s σ H x v Q I rx h;obtain⟨i,rfl,q⟩:=h;obtain⟨t,rfl⟩:=rx;exact rule i t s _ _ ⟨.int (g i),H,I.tok _,⟨_,rfl⟩,q⟩
theorem zQT:UnR X (unaryOp .USub) (rU fun i=>.int (-i)):=unI fun _ _ _ _ _ q=>neg_int q
end
section
variable{X:Cx}{a b c:Expr}{ta tb tc:TE}{pos:Pos}
theorem pA:OpR X (compareOp .Lt) (rI0 fun i j=>.bl (decide (i<j))):=zSE fun _ _ _ _ _ _ _ q=>lt_int q
theorem zHm:OpR X (compareOp .Gt) (rI0 fun i j=>.bl (decide (j<i))):=zSE fun _ _ _ _ _ _ _ q=>gt_int q
theorem OpR.or{f:Value->Value->Sem Value}{r r':R2}(h:OpR X f r)(h':OpR X f r'):OpR X f (fun x y H Q=>r x y H Q∨r' x y H Q):=by
 intro pins s σ H x y v u Q I rx ry q;rcases q with q | q
 ·exact h pins s σ H x y v u Q I rx ry q
 ·exact h' pins s σ H x y v u Q I rx ry q
theorem aZ(b:Expr){op:CmpOp}(h:op≠.In:=by decide)(h2:op≠.NotIn:=by decide):behindInMarks op b=false:=by
 have e1:(op==CmpOp.In)=false:=by cases op<;>first | rfl | exact absurd rfl h
 have e2:(op==CmpOp.NotIn)=false:=by cases op<;>first | rfl | exact absurd rfl h2
 cases b<;>simp[behindInMarks,e1,e2]
theorem zOk{op:CmpOp}{r:R2}(ho:OpR X (compareOp op) r)(ha:PE X a ta)(hb:PE X b tb)(hm:behindInMarks op b=false):PE X (.Compare a [op] [b] pos) (tOp r ta tb):=by
 intro pins s σ H Q I h;exact wpAny_Compare1 (zRw ha hb I h fun v u s2 x y H2 I2 rx ry q=>ho pins s2 σ H2 x y v u Q I2 rx ry q) hm
abbrev zPI(t:TE):TT:=fun σ H Q=>t σ H fun x H'=>∃ k,x=.bl k/\Q k H'
theorem zJp{op:CmpOp}{r:R2}(ho:OpR X (compareOp op) r)(ha:PE X a ta)(hb:PE X b tb)(hm:behindInMarks op b=false):PT X (.Compare a [op] [b] pos) (zPI (tOp r ta tb)):=by
 intro pins s σ H Q I h
 refine wpAny_isTrue_Compare1 (thn (ha pins s σ H _ I h) fun v s1 ⟨x,H1,I1,r1,q1⟩=>thn (hb pins s1 σ H1 _ I1 q1) fun u s2 ⟨y,H2,I2,r2,q2⟩=>
  thn (ho pins s2 σ H2 x y v u _ I2 r1 r2 q2) fun c s3 ⟨z,H3,I3,r3,k,e,q3⟩=>?_) hm
 subst e;cases r3;exact wpAny_truthy_bool ⟨H3,I3,q3⟩
theorem zFT:(sizeLine:Nat)<2^63:=by rw[sizeLine_eq];decide
theorem zBj{x:V}{us:List Value}(r:dW [x] us):∃ u,us=[u]/\dI x u:=by
 cases r with
 | cons r1 r2=>cases r2;exact⟨_,rfl,r1⟩
theorem zRn{x y:V}{us:List Value}(r:dW [x,y] us):∃ u w',us=[u,w']/\dI x u/\dI y w':=by
 cases r with
 | cons r1 r2=>
  cases r2 with
  | cons r3 r4=>cases r4;exact⟨_,_,rfl,r1,r3⟩
theorem uH:tP X (.builtin "abs") (fun xs H Q=>∃ i,xs=[.int i]/\Q (.int (if i<0 then -i else i)) H):=by
 intro pins s σ H xs us Q I r h;obtain⟨i,rfl,q⟩:=h;obtain⟨u,rfl,t,rfl⟩:=zBj r;exact call_abs_int fun u tk=>⟨.int (if i<0 then -i else i),H,I.tok _,⟨_,rfl⟩,q⟩
theorem zHH:tP X (.type "int") (fun xs H Q=>(∃ i,xs=[.int i]/\Q (.int i) H)∨∃ k,xs=[.bl k]/\Q (.int (if k then 1 else 0)) H):=by
 intro pins s σ H xs us Q I r h;rcases h with⟨i,rfl,q⟩ | ⟨k,rfl,q⟩
 ·obtain⟨u,rfl,t,rfl⟩:=zBj r
  exact call_int_int ⟨.int i,H,I,⟨_,rfl⟩,q⟩
 ·obtain⟨u,rfl,r1⟩:=zBj r
  cases r1;exact call_int_bool ⟨.int (if k then 1 else 0),H,I.tok _,⟨_,rfl⟩,q⟩
end
section
variable{prog:Program}{w:World}{A:Around}{E:Value->Shared->Prop}{s:Shared}{K:Fg_}{x dx C f:Addr}{mA:Str->Option Value}{name:Str}{v:Value}
end
section
variable{P:Program}{w:World}{H H':Hp}{h h':Heap}{a C dx:Addr}{fs fs':List (Str×V)}
end
section
variable{X:Cx}{pins:List (Addr×Obj)}{σ:St}{H:Hp}{s:Shared}{a C dx:Addr}{fs:List (Str×V)}{f:Str}{v:V}{A:Around}{E:Value->Shared->Prop}
end
section
variable{X:Cx}{o e value:Expr}{f:Str}{pos pos' tpos:Pos}{ta tv:TE}
end
section
variable{X:Cx}{pins:List (Addr×Obj)}{σ:St}{H:Hp}{s:Shared}{A:Around}{E:Value->Shared->Prop}{Q:Value->Shared->Prop}{c:Value}{b:Bool}
end
structure Room (k:Nat) (A:Around):Prop where
 hd:A.handled=none
 dp:A.depth+3*k+5<recursionLimit
 un:A.units+16*k+200<cLine
theorem Room.mono{j k:Nat}{A:Around}(r:Room k A)(h:j<=k):Room j A:=⟨r.hd,by have:=r.dp;omega,by have:=r.un;omega⟩
theorem Room.deeper{k:Nat}{A:Around}(r:Room (k+1) A)(env:Env):Room k (A.deeper env):=
 ⟨r.hd,by have:=r.dp;show A.depth+1+3*k+5<_;omega,by have:=r.un;show A.units+3+16*k+200<_;omega⟩
theorem Room.depth{k:Nat}{A:Around}(r:Room k A):A.depth<recursionLimit:=by have:=r.dp;omega
theorem Room.units{k:Nat}{A:Around}(r:Room k A):A.units+64<cLine:=by have:=r.un;omega
abbrev zSM:TA:=fun _ H Q=>Q [] H
abbrev zRy(ta:TE)(tr:TA):TA:=fun σ H Q=>ta σ H fun x H1=>tr σ H1 fun xs H2=>Q (x::xs) H2
section
variable{X:Cx}{e:Expr}{es:List Expr}{te:TE}{t:TA}{pos:Pos}
theorem tH:PA X [] zSM:=fun _ _ _ _ H Q I h=>Calls.spliced_nil ⟨[],H,I,.nil,h⟩
theorem lK(ha:PE X e te)(hr:PA X es t)(hs:starEach (e::es) X.env=(false,eval e X.env)::starEach es X.env:=by rfl):PA X (e::es) (zRy te t):=by
 intro pos pins s σ H Q I h;rw[hs];show wpAny _ _ (spliced ((false,eval e X.env)::backTo pos (starEach es X.env))) _ _ s
 refine Calls.spliced_cons (thn (ha pins s σ H _ I h) fun u s1 ⟨x,H1,I1,r1,q1⟩=>?_)
 exact thn (hr pos pins s1 σ H1 _ I1 q1) fun us s2 ⟨xs,H2,I2,r2,q2⟩=>⟨x::xs,H2,I2,.cons r1 r2,q2⟩
abbrev zTc(t:TA):TE:=fun σ H Q=>t σ H fun xs H1=>xs.length<=sizeLine/\∀ p,H1 p=none->Q (.ref p) (upd H1 p (.tup xs))
abbrev zSO(t:TA):TE:=fun σ H Q=>t σ H fun xs H1=>xs.length<=sizeLine/\∀ p,H1 p=none->Q (.ref p) (upd H1 p (.lst xs))
theorem zPp{x1}(h:PA X es t):PE X (.Tuple es x1 pos) (zTc t):=by
 intro pins s σ H Q I hq;refine wpAny_Tuple_spliced (thn (h pos pins s σ H _ I hq) fun us s1 ⟨xs,H1,I1,r,z,q⟩=>⟨by rw[<-r.length];exact z,?_⟩)
 have hf:H1 s1.heap.objs.size=none:=I1.hok.fresh (Qg _);refine⟨.ref s1.heap.objs.size,upd H1 s1.heap.objs.size (.tup xs),I1.laid (t':=s1.toks) (fun b u e=>Heap.get?_push_of_some _ e) (Qg _) ?_,rfl,q _ hf⟩
 exact⟨z,us,r,⟨_,Heap.get?_push_size _ rfl,rfl,_,rfl⟩⟩
theorem zOT(h:PA X es t):PE X (.List es pos) (zSO t):=by
 intro pins s σ H Q I hq;refine wpAny_List_spliced (thn (h pos pins s σ H _ I hq) fun us s1 ⟨xs,H1,I1,r,z,q⟩=>⟨by rw[<-r.length];exact z,?_⟩)
 have hf:H1 s1.heap.objs.size=none:=I1.hok.fresh (Qg _);refine⟨.ref s1.heap.objs.size,upd H1 s1.heap.objs.size (.lst xs),I1.laid (t':=s1.toks) (fun b u e=>Heap.get?_push_of_some _ e) (Qg _) ?_,rfl,q _ hf⟩
 exact⟨z,us,0,r,Heap.get?_push_size _ rfl⟩
end
abbrev Sp:=List V->Hp->VK->XK->Prop
abbrev CXT:=List Env->Hp->Shared->XK->Value->Shared->Prop
structure Env0 (P:Program) (w:World) (K:PySem.W.Frag) (mg:Str->Option Value) (base:Heap) (A:Around) (outer:List Env) (s:Shared) (H:Hp):Prop where
 frames:A.frames=some outer
 mod:Mod K mg base
 bs:∀ b o,base.get? b=some o->s.heap.get? b=some o/\H b=none
 bsz:base.objs.size<=s.heap.objs.size
 funs:s.heap.FunFrames base outer
 frf:∀ b∈frs outer,H b=none
 hok:HOk P w H s.heap
 bare:AllBare s.gens
def CE(outer:List Env)(P:Program)(w:World)(H:Hp)(s:Shared)(Q:VK)(u:Value)(s':Shared):Prop:=
 ∃ v H',s'.os=s.os/\AllBare s'.gens/\Un (frs outer) [] H H' s.heap s'.heap/\HOk P w H' s'.heap/\dI v u/\Q v H'
def CR(CX:CXT)(outer:List Env)(P:Program)(w:World)(H:Hp)(s:Shared)(Q:VK)(E:XK)(r:Result)(s':Shared):Prop:=
 match r with
 | .ok (.ret u)=>CE outer P w H s Q u s'
 | .ok _=>False
 | .error e=>CX outer H s E e s'
structure FnOk (P:Program) (w:World) (K:PySem.W.Frag) (mg:Str->Option Value) (base:Heap) (CX:CXT) (k:Nat) (f:Addr) (fd:FuncData) (ps:List Str) (sp:Sp):Prop where
 len:∀ vs H Q E,sp vs H Q E->vs.length=ps.length
 run:∀(A:Around)(outer:List Env)(s:Shared)(H:Hp)(args:Args)(us:List Value)(vs:List V)(Q:VK)(E:XK),Room k A->Env0 P w K mg base A outer s H->BindsTo s fd args (ps.zip us)->dW vs us->sp vs H Q E->
  codeAny (model P w) A (.call (.ref f) args) (CR CX outer P w H s Q E) s
theorem FnOk.mono{P:Program}{w:World}{K:Fg_}{mg:Str->Option Value}{base:Heap}{CX:CXT}{j k:Nat}{f:Addr}{fd:FuncData}{ps:List Str}{sp:Sp}(F:FnOk P w K mg base CX j f fd ps sp)(h:j<=k):
  FnOk P w K mg base CX k f fd ps sp:=⟨F.len,fun A outer s H args us vs Q E hr=>F.run A outer s H args us vs Q E (hr.mono h)⟩
theorem FnOk.imp{P:Program}{w:World}{K:Fg_}{mg:Str->Option Value}{base:Heap}{CX:CXT}{k:Nat}{f:Addr}{fd:FuncData}{ps:List Str}{sp sp':Sp}(F:FnOk P w K mg base CX k f fd ps sp)
  (h:∀ vs H Q E,sp' vs H Q E->sp vs H Q E):FnOk P w K mg base CX k f fd ps sp':=
 ⟨fun vs H Q E q=>F.len vs H Q E (h _ _ _ _ q),fun A outer s H args us vs Q E hr he hb hv hs=>F.run A outer s H args us vs Q E hr he hb hv (h _ _ _ _ hs)⟩
theorem Env0.in1{P:Program}{w:World}{K:Fg_}{mg:Str->Option Value}{base:Heap}{A:Around}{outer:List Env}{s:Shared}{H:Hp}(e:Env0 P w K mg base A outer s H):
  Env0 P w K mg base A.in1 outer s H:=⟨e.frames,e.mod,e.bs,e.bsz,e.funs,e.frf,e.hok,e.bare⟩
section
variable{X:Cx}{pins:List (Addr×Obj)}{σ:St}{H:Hp}{s s':Shared}
theorem Inv.env0(I:Inv X pins σ H s):Env0 X.prog X.w X.K X.mg X.base X.A X.stack s H:=
 ⟨I.ok.frames,I.ok.mod,I.bs,QD I.ok.bsz I.sz,I.stack,I.stkFree,I.hok,I.bare⟩
theorem Inv.after{Q:VK}{u:Value}(I:Inv X pins σ H s)(h:CE X.stack X.prog X.w H s Q u s'):EP X pins σ Q u s':=by
 obtain⟨v,H',os,bare,un,hok,r,q⟩:=h;obtain⟨hh,g,d,t,os'⟩:=s';obtain rfl:os'=s.os:=os;exact⟨v,H',I.call (h':=hh) (g':=g) (d':=d) (t':=t) (ch:=[]) un hok bare (fun b z=>absurd z (by simp)),r,q⟩
end
abbrev zNE(sp:Sp)(dvs:List V)(E:XK)(t:TA):TE:=fun σ H Q=>t σ H fun vs H1=>sp (vs++dvs) H1 Q E
def zCn(K:PySem.W.Frag)(fd:FuncData)(ps:List Str)(ds:List Value):Prop:=
 ∀(s:Shared)(us:List Value),K.In s.heap->(us++ds).length=ps.length->BindsTo s fd ⟨us,[]⟩ (ps.zip (us++ds))
theorem zCn.all{K:Fg_}{fd:FuncData}{ps:List Str}(h:∀ us:List Value,us.length=ps.length->bindArgs fd ⟨us,[]⟩=pure (ps.zip us)):zCn K fd ps []:=fun s us _ hl=>by
 rw[QK] at hl ⊢
 exact .of_eq (h us hl)
def zFc(CX:CXT)(X:Cx)(E:XK):Prop:=∀(pins:List (Addr×Obj))(σ:St)(H:Hp)(s:Shared)(e:Value)(s':Shared),Inv X pins σ H s->CX X.stack H s E e s'->X.xe e s'
section
variable{X:Cx}{CX:CXT}{k:Nat}{f C:Addr}{fd:FuncData}{ps:List Str}{sp:Sp}{dvs:List V}{ds:List Value}{E:XK}{x m:Str}{p pos apos:Pos}{e o:Expr}{es:List Expr}{ta:TE}{t:TA}
theorem zPX{pins:List (Addr×Obj)}{σ:St}{H:Hp}{s:Shared}{Q:VK}{us:List Value}{vs:List V}(F:FnOk X.prog X.w X.K X.mg X.base CX k f fd ps sp)(hr:Room k X.A)(hb:zCn X.K fd ps ds)(hd:dW dvs ds)(hx:zFc CX X E)
  (I:Inv X pins σ H s) (r:dW vs us) (h:sp (vs++dvs) H Q E):wpAny (model X.prog X.w) X.A (call (.ref f) us) (EP X pins σ Q) X.xe s:=by
 have r2:dW (vs++dvs) (us++ds):=r.append hd;have hl:(us++ds).length=ps.length:=by rw[<-r2.length];exact F.len _ _ _ _ h
 refine wpAny_call (codeAny_mono (F.run X.A X.stack s H ⟨us,[]⟩ (us++ds) (vs++dvs) Q E hr I.env0 (hb s us I.kIn hl) r2 h) fun r s' hq=>?_)
 cases r with
 | error e=>exact hx pins σ H s e s' I hq
 | ok fl=>
  cases fl with
  | ret u=>exact I.after hq
  | next=>exact False.elim hq
  | brk=>exact False.elim hq
  | cont=>exact False.elim hq
theorem zDN(F:FnOk X.prog X.w X.K X.mg X.base CX k f fd ps sp)(hr:Room k X.A)(hg:Gl X x)(hm:X.mg x=some (.ref f))(hk:PySem.W.keepIn X.K (.ref f)=true)(hb:zCn X.K fd ps ds)(hd:dW dvs ds)(hx:zFc CX X E)
  (ha:PA X (e::es) t) (hdb:(x==("__debug__" : Str))=false:=by decide) (he:starEach (e::es) X.env=(false,eval e X.env)::starEach es X.env:=by rfl) (hpl:(backTo pos (starEach es X.env)).any (·.1)=false:=by rfl):
  PE X (.Call (.Name x p) (e::es) [] pos) (zNE sp dvs E t):=by
 intro pins s σ H Q I h;refine wpAny_Call_Name_kw (zEG I hg hm ?_ hdb)
 refine PySem.W.callWith_K (h₀:=X.base) I.ok.mod.kin hk (thn (ha pos pins s σ H _ I h) fun us s1 ⟨vs,H1,I1,r,q⟩=>⟨I1.kIn,?_⟩) he hpl
 exact zPX F hr hb hd hx I1 r q
end
section
variable{X:Cx}{CX:CXT}{k:Nat}{f C:Addr}{fd:FuncData}{ps ks:List Str}{sp:Sp}{E:XK}{x m:Str}{p pos apos kpos:Pos}{e o:Expr}{es:List Expr}{kws:List Keyword}{te ta:TE}{t tk:TA}{nm:Option Str}
variable{g:List Value->List Value->List Value}{gV:List V->List V->List V}
end
structure FnScope (N P:List Str) (sc:Scope):Prop where
 kind:sc.kind=.function
 co:sc.isCoroutine=false
 gen:sc.isGenerator=false
 nd:N.Nodup
 pre:N.take P.length=P
 par:∀ x∈P,sc.names.lookup x=some .local∨sc.names.lookup x=some .cell
 nofree:∀ y∈sc.names,y.2≠.free
theorem zBU{kindOf:Str->Option NameKind}{x:Str}:∀ {binds:List (Str×Value)} {m:Str->Option Value},(∀ v,(x,v)∉binds)->bindL kindOf binds m x=m x
 | [],_,_=>rfl
 | (n,v)::r,m,h=>by
  unfold bindL;rw[zBU fun w hw=>h w (Qc _ hw)];split
  ·have:x≠n:=by rintro rfl;exact h v Qb
   simp[this]
  ·rfl
theorem zDi{kindOf:Str->Option NameKind}{x:Str}:∀ {binds:List (Str×Value)} {m:Str->Option Value},(∀ v,(x,v)∉binds)->bindC kindOf binds m x=m x
 | [],_,_=>rfl
 | (n,v)::r,m,h=>by
  unfold bindC;rw[zDi fun w hw=>h w (Qc _ hw)];split
  ·rfl
  ·have:x≠n:=by rintro rfl;exact h v Qb
   simp[this]
theorem zDj{kindOf:Str->Option NameKind}{x:Str}{v:Value}:∀ {P:List Str} {vs:List Value} {i:Nat} {m:Str->Option Value},P.Nodup->P[i]?=some x->vs[i]?=some v->kindOf x=some .local->
  bindL kindOf (P.zip vs) m x=some v
 | [],_,_,_,_,h,_,_=>by simp at h
 | _::_,[],_,_,_,_,h,_=>by simp at h
 | p::P,w::vs,0,m,nd,h1,h2,hk=>by
  simp at h1 h2;subst h1;subst h2
  show bindL kindOf ((p,w)::P.zip vs) m p=_
  unfold bindL;rw[zBU fun v hv=>(VG.mp nd).1 (VV hv).1,if_pos hk];simp
 | p::P,w::vs,i+1,m,nd,h1,h2,hk=>by
  show bindL kindOf ((p,w)::P.zip vs) m x=_
  unfold bindL;exact zDj (i:=i) (VG.mp nd).2 (by simpa using h1) (by simpa using h2) hk
theorem zDv{kindOf:Str->Option NameKind}{x:Str}{v:Value}:∀ {P:List Str} {vs:List Value} {i:Nat} {m:Str->Option Value},P.Nodup->P[i]?=some x->vs[i]?=some v->kindOf x≠some .local->
  bindC kindOf (P.zip vs) m x=some v
 | [],_,_,_,_,h,_,_=>by simp at h
 | _::_,[],_,_,_,_,h,_=>by simp at h
 | p::P,w::vs,0,m,nd,h1,h2,hk=>by
  simp at h1 h2;subst h1;subst h2
  show bindC kindOf ((p,w)::P.zip vs) m p=_
  unfold bindC;rw[zDi fun v hv=>(VG.mp nd).1 (VV hv).1,if_neg hk];simp
 | p::P,w::vs,i+1,m,nd,h1,h2,hk=>by
  show bindC kindOf ((p,w)::P.zip vs) m x=_
  unfold bindC;exact zDv (i:=i) (VG.mp nd).2 (by simpa using h1) (by simpa using h2) hk
def start(N:List Str)(vs:List V):St:=vs.map some++List.replicate (N.length-vs.length) none
def zGV(CX:CXT)(P:Program)(w:World)(K:PySem.W.Frag)(mg:Str->Option Value)(base:Heap)(N:List Str)(qual:Str)(scope:Scope)(f:Addr)(cd:Value)(A:Around)(outer:List Env)(s:Shared)(H:Hp)(E:XK):Cx where
 prog:=P
 w:=w
 K:=K
 mg:=mg
 base:=base
 A:=A.deeper (envOfC qual scope s.heap.objs.size f cd)
 N:=N
 s₀:=s
 H₀:=H
 env:=envOfC qual scope s.heap.objs.size f cd
 outer:=outer
 stack:=envOfC qual scope s.heap.objs.size f cd::outer
 ex:=[]
 calm:=true
 fn:=fun _=>true
 pn:=[]
 xe:=fun e s'=>wpAny (model P w) (A.deeper (envOfC qual scope s.heap.objs.size f cd)) (leaving (envOfC qual scope s.heap.objs.size f cd) e) (fun _ s''=>CX outer H s E e s'') (fun e' s''=>CX outer H s E e' s'') s'
theorem zFu{sc:Scope}{n:Nat}{x:Str}(h:sc.names.lookup x=some .cell):∃ c,(cellsFrom n sc.names []).lookup x=some c:=by
 have q:=Yo sc.names n [] (.inl h);exact Option.isSome_iff_exists.mp q
theorem zIj{CX:CXT}{P:Program}{w:World}{K:Fg_}{mg:Str->Option Value}{base:Heap}{N ps:List Str}{qual:Str}{scope:Scope}{f:Addr}{cd:Value}{A:Around}{outer:List Env}{s s1:Shared}{H:Hp}{E:XK}{us:List Value}{vs:List V}
  (S:FnScope N ps scope) (hd:A.handled=none) (e0:Env0 P w K mg base A outer s H) (hl:vs.length=ps.length) (r:dW vs us)
  (x:InCallC s s.heap.objs.size (bindL (envOfC qual scope s.heap.objs.size f cd).kindOf (ps.zip us) fun _=>none) (cellsFrom (s.heap.objs.size+1) scope.names []) (bindC (envOfC qual scope s.heap.objs.size f cd).kindOf (ps.zip us) fun _=>none) s1):
  Inv (zGV CX P w K mg base N qual scope f cd A outer s H E) [] (start N vs) H s1:=by
 have hpl:ps.length<=N.length:=by have:=congrArg List.length S.pre;rw[VH] at this;omega
 obtain⟨h1,tk,rfl,hk⟩:=x.done;have noA:∀ b:Addr,b∉(zGV CX P w K mg base N qual scope f cd A outer s H E).ex:=fun b z=>absurd (show b∈([]:List Addr) from z) (by simp)
 refine⟨⟨e0.mod,S.kind,rfl,rfl,Qg _,fun y z c h1 h2=>?_,fun y hy=>?_,fun y c _ h=>?_,fun _=>hd,Around.frames_deeper e0.frames,.inr ⟨rfl,rfl⟩,fun b z=>absurd z (noA b),e0.bs,e0.bsz,fun b _ _=>noA b,fun b z=>absurd z (noA b),e0.funs,e0.frf⟩,
  rfl,e0.bare,Un.kept hk,⟨_,x.toInCall.ns,fun i y v h1 h2 h3=>?_⟩,fun y c h=>⟨_,x.cell y c h⟩,e0.hok.fresh (Qg _),fun y c h=>?_,fun p hp=>absurd (show p∈([]:List (Addr×Obj)) from hp) (by simp),e0.hok.kept hk,?_⟩
 ·exact name_of_addr x.apart (Vy h1) (Vy h2)
 ·have hy:scope.names.lookup y=some .cell∨scope.names.lookup y=some .free:=hy
  rcases hy with hy | hy
  ·exact zFu hy
  ·exact absurd rfl (S.nofree _ (Vy hy))
 ·exact Vo (x.above y c (Vy h))
 ·have hi:i<vs.length:=by
   unfold start at h2;by_cases hi:i<vs.length
   ·exact hi
   ·rw[QS (by simpa using hi)] at h2
    rw[Xl] at h2;split at h2<;>cases h2
  have ha:vs[i]?=some v:=by
   unfold start at h2;rw[QR (by simpa using hi),Qr] at h2
   cases e:vs[i]? with
   | none=>rw[e] at h2;cases h2
   | some a=>rw[e] at h2;cases h2;rfl
  obtain⟨u,hu,rv⟩:=r.get ha
  have hp:ps[i]?=some y:=by
   rw[<-S.pre,List.getElem?_take_of_lt (by omega)];exact h1
  have ndP:ps.Nodup:=by rw[<-S.pre];exact S.nd.sublist (List.take_sublist _ _)
  refine⟨u,rv,?_⟩
  rcases S.par y (Qi hp) with k | k
  ·exact .inl ⟨k,zDj ndP hp hu k⟩
  ·obtain⟨c,e⟩:=zFu (n:=s.heap.objs.size+1) k
   refine .inr ⟨.inl k,c,e,?_⟩
   have q:=x.cell y c e;rw[zDv ndP hp hu (by show scope.names.lookup y≠_;rw[k];decide)] at q;exact q
 ·exact e0.hok.fresh (Vo (x.above y c (Vy h)))
 ·unfold start
  show _=N.length
  rw[Qm,Qe,VI];omega
theorem zQt{CX:CXT}{P:Program}{w:World}{K:Fg_}{mg:Str->Option Value}{base:Heap}{k:Nat}{f:Addr}{name qual:Str}{params:Arguments}{body:List Stmt}{scope:Scope}{dV kV doc pm cdv ct oc:Value}{an od:Option Addr}
  {osl:Array (Option Value)} {N ps:List Str} {sp:Sp} (lk:K.lookup f=some ⟨oc,od,.func (PySem.W.fnOf name qual params body scope dV kV doc pm an cdv ct),osl⟩) (hcd:PySem.W.codeIn K cdv qual=true) (S:FnScope N ps scope)
  (len:∀ vs H Q E,sp vs H Q E->vs.length=ps.length)
  (hbody:∀(A:Around)(outer:List Env)(s:Shared)(H:Hp)(vs:List V)(Q:VK)(E:XK),Room k (A.deeper (envOfC qual scope s.heap.objs.size f cdv))->sp vs H Q E->
   ∃ t,PSs (zGV CX P w K mg base N qual scope f cdv A outer s H E) body t/\t { nx:=fun _ H'=>Q .non H',rt:=Q } (start N vs) H):
  FnOk P w K mg base CX (k+1) f (PySem.W.fnOf name qual params body scope dV kV doc pm an cdv ct) ps sp:=by
 refine⟨len,fun A outer s H args us vs Q E hr e0 hb r hsp=>?_⟩
 have hl:=len _ _ _ _ hsp;have KX:K.In s.heap:=e0.mod.kin.keeps fun b o e=>(e0.bs b o e).1
 have lim:s.heap.NoLimit:=e0.mod.nolimit.keeps fun b o e=>(e0.bs b o e).1
 have hkind:∀ y∈ps.zip us,scope.names.lookup y.1=some .local∨(scope.names.lookup y.1=some .cell/\((cellsFrom (s.heap.objs.size+1) scope.names []).lookup y.1).isSome=true):=fun ⟨n,v⟩ hy=>by
  rcases S.par n (VV hy).1 with q | q
  ·exact .inl q
  ·exact .inr ⟨q,Yo _ _ _ (.inl q)⟩
 refine codeAny_call_function hr.depth (KX _ _ lk) rfl S.co S.gen rfl (PySem.W.codeRec_of KX hcd) (hb _ _ _ _ ?_)
 refine wpAny_newFunctionEnv_cells S.kind hkind fun env he s1 x=>?_
 subst he;refine⟨lim.keeps x.toInCall.keep,codeAny_func ?_⟩
 obtain⟨t,ht,hq⟩:=hbody A outer s H vs Q E (hr.deeper _) hsp;have I:Inv (zGV CX P w K mg base N qual scope f cdv A outer s H E) [] (start N vs) H s1:=zIj S hr.hd e0 hl r x;refine wpAny_mono (ht [] s1 (start N vs) H _ I hq) (fun fl s' hs=>?_) fun e s' hs=>hs
 have fin:∀ {σ':St} {H':Hp} {v:V} {u:Value},Inv (zGV CX P w K mg base N qual scope f cdv A outer s H E) [] σ' H' s'->dI v u->Q v H'->CE outer P w H s Q u s':=
  fun {σ' H' v u} J rv q=>⟨v,H',J.os,J.bare,J.base,J.hok,rv,q⟩
 cases fl with
 | ret u=>
  obtain⟨v,σ',H',J,rv,q⟩:=hs;exact fin J rv q
 | next=>
  obtain⟨σ',H',J,q⟩:=hs;exact fin (v:=V.non) (u:=Value.none) J rfl q
 | brk=>
  obtain⟨_,_,_,q⟩:=hs;exact False.elim q
 | cont=>
  obtain⟨_,_,_,q⟩:=hs;exact False.elim q
section
variable{X:Cx}{x:Str}{p pos:Pos}{e:Expr}{es:List Expr}{t:TA}{id T:String}{r:List V->Hp->VK->Prop}
abbrev tCB(r:List V->Hp->VK->Prop)(t:TA):TE:=fun σ H Q=>t σ H fun vs H1=>r vs H1 Q
theorem zI(hc:tP X (.builtin id) r)(hg:Gl X x)(hm:X.mg x=none)(hv:bootBuiltins x=some (.builtin id))(ha:PA X (e::es) t)(hn:x ≠ "__name__" := by decide)(hdb:(x==("__debug__" : Str))=false:=by decide)
  (he:starEach (e::es) X.env=(false,eval e X.env)::starEach es X.env:=by rfl) (hpl:(backTo pos (starEach es X.env)).any (·.1)=false:=by rfl):PE X (.Call (.Name x p) (e::es) [] pos) (tCB r t):=by
 intro pins s σ H Q I h;refine wpAny_Call_Name_kw (pU I hg hm hv ?_ hn hdb)
 exact PyProof.Rows.callWith_builtin1 (thn (ha pos pins s σ H _ I h) fun us s1 ⟨vs,H1,I1,r1,q1⟩=>hc pins s1 σ H1 vs us Q I1 r1 q1) he hpl
theorem zCc(hc:tP X (.type T) r)(hg:Gl X x)(hm:X.mg x=none)(hv:bootBuiltins x=some (.type T))(ha:PA X (e::es) t)(hn:x ≠ "__name__" := by decide)(hdb:(x==("__debug__" : Str))=false:=by decide)
  (he:starEach (e::es) X.env=(false,eval e X.env)::starEach es X.env:=by rfl) (hpl:(backTo pos (starEach es X.env)).any (·.1)=false:=by rfl):PE X (.Call (.Name x p) (e::es) [] pos) (tCB r t):=by
 intro pins s σ H Q I h;refine wpAny_Call_Name_kw (pU I hg hm hv ?_ hn hdb)
 exact VU (thn (ha pos pins s σ H _ I h) fun us s1 ⟨vs,H1,I1,r1,q1⟩=>hc pins s1 σ H1 vs us Q I1 r1 q1) he hpl
end
end L2
namespace HT
open PySem PyProof.Rows
section
open PySem.SeqAt
open PySem.AutoSeq1 (wpAny_loadPart')
open PySem.MeetsSeq PySem.MeetsSeq2 PySem.MeetsSeq3
end
section
variable{prog:Program}{w:World}{A:Around}{E:Value->Shared->Prop}{s:Shared}
theorem cat_tup{t b:Addr}{vs ws:List Value}{Q:Value->Shared->Prop}(ht:IsTup s.heap t vs.toArray)(hb:IsTup s.heap b ws.toArray)(hv:vs≠[])
  (h1:ws=[]->Q (.ref t) s) (h2:ws≠[]->Q (.ref s.heap.objs.size) { s with heap:=s.heap.push { cls:=.type "tuple", data:=.seq (vs++ws).toArray } })
  (hsz:vs.length+ws.length<=sizeLine):wpAny (model prog w) A (binaryOp .Add (.ref t) (.ref b)) Q E s:=by
 obtain⟨⟨cls,dd,data,sl⟩,ho,hc,n,hd⟩:=id ht;obtain⟨⟨cls2,dd2,data2,sl2⟩,ho2,hc2,n2,hd2⟩:=id hb;simp only at hc hd hc2 hd2
 subst hc hd hc2 hd2;have e:vs.toArray++ws.toArray=(vs++ws).toArray:=by simp
 by_cases hw:ws=[]
 ·exact concat_meets ⟨_,ho,rfl⟩ ⟨_,ho2,rfl⟩ noFill_tuple_add seq_tuple_add Xz XA (XB _ _)
   (tuple_addW1 t b vs.toArray ws.toArray n n2 dd dd2 sl sl2 (by simpa using hv) (by simp[hw])) ⟨ho,ho2,h1 hw⟩
 ·refine concat_meets ⟨_,ho,rfl⟩ ⟨_,ho2,rfl⟩ noFill_tuple_add seq_tuple_add Xz XA (XB _ _)
   (tuple_addW2 t b vs.toArray ws.toArray n n2 dd dd2 sl sl2 (by simpa using hv) (by simpa using hw) (by rw[Qk,Qk];exact hsz)) ⟨ho,ho2,?_⟩
  rw[e];exact h2 hw
def sIx(n d:Nat):Option Int->Nat
 | none=>d
 | some v=>if v<0 then (v+(n:Int)).toNat else min v.toNat n
end
end HT
namespace L2
open PySem PySem.Spec PyProof.Rows
abbrev TO:=St->Hp->(Option Int->Hp->Prop)->Prop
def PO(X:Cx)(e:Option Expr)(t:TO):Prop:=
 ∀(pins:List (Addr×Obj))(s:Shared)(σ:St)(H:Hp)(Q:Option Int->Hp->Prop),Inv X pins σ H s->t σ H Q->
  wpAny (model X.prog X.w) X.A (evalPart e X.env) (fun u s'=>∃ o H',Inv X pins σ H' s'/\IsPart u o/\Q o H') X.xe s
abbrev zOn:TO:=fun _ H Q=>Q none H
abbrev zRL(t:TE):TO:=fun σ H Q=>t σ H fun x H1=>∃ i,x=.int i/\Q (some i) H1
section
variable{X:Cx}{e:Expr}{te:TE}{lo hi:Option Expr}{tl th:TO}{pos p2:Pos}
theorem zOs:PO X none zOn:=by
 intro pins s σ H Q I h;rw[evalPart_none];exact wpAny_pure ⟨none,H,I,.none,h⟩
theorem zNz(h:PE X e te):PO X (some e) (zRL te):=by
 intro pins s σ H Q I hw;rw[evalPart_some];refine thn (h pins s σ H _ I hw) fun u s1 ⟨x,H1,I1,r1,q1⟩=>?_
 obtain⟨i,rfl,q⟩:=q1;obtain⟨t,rfl⟩:=r1;exact⟨some i,H1,I1,.int i t,q⟩
def SlR(X:Cx)(r:V->Option Int->Option Int->Hp->VK->Prop):Prop:=
 ∀(pins:List (Addr×Obj))(s:Shared)(σ:St)(H:Hp)(x:V)(v vl vu:Value)(lo hi:Option Int)(sl:Addr)(Q:VK),Inv X pins σ H s->dI x v->s.heap.IsSliceOf sl vl vu .none->IsPart vl lo->IsPart vu hi->r x lo hi H Q->
  ∃ T id,typeLookup (.type T) "__getitem__" = pure (some (.builtin id))/\s.TypeIs v T/\wpAny (model X.prog X.w) X.A (getItem v (.ref sl)) (EP X pins σ Q) X.xe s
abbrev tSl(r:V->Option Int->Option Int->Hp->VK->Prop)(te:TE)(tl th:TO):TE:=fun σ H Q=>te σ H fun x H1=>tl σ H1 fun l H2=>th σ H2 fun u H3=>r x l u H3 Q
theorem zKu{r:V->Option Int->Option Int->Hp->VK->Prop}(hr:SlR X r)(he:PE X e te)(hl:PO X lo tl)(hu:PO X hi th):PE X (.Subscript e (.Slice lo hi none p2) pos) (tSl r te tl th):=by
 intro pins s σ H Q I h;refine Subscript_ (thn (he pins s σ H _ I h) fun v s1 ⟨x,H1,I1,r1,q1⟩=>?_)
 refine wpAny_Slice (thn (hl pins s1 σ H1 _ I1 q1) fun vl s2 ⟨l,H2,I2,pl,q2⟩=>thn (hu pins s2 σ H2 _ I2 q2) fun vu s3 ⟨u,H3,I3,pu,q3⟩=>?_)
 rw[evalPart_none];refine wpAny_pure ?_
 have I4:Inv X pins σ H3 { s3 with heap:=s3.heap.push { cls:=.type "slice", data:=.fields #[vl,vu,.none] } }:=I3.kept (t':=s3.toks) fun b ob q=>Heap.get?_push_of_some _ q
 obtain⟨T,id,hT,ht,hg⟩:=hr pins { s3 with heap:=s3.heap.push { cls:=.type "slice", data:=.fields #[vl,vu,.none] } } σ H3 x v vl vu l u s3.heap.objs.size Q I4 r1 (Heap.IsSliceOf.new ..) pl pu q3;show wpAny (model X.prog X.w) X.A (subscriptTail e (.Slice lo hi none p2) v (.ref s3.heap.objs.size)) (EP X pins σ Q) X.xe { s3 with heap:=s3.heap.push { cls:=.type "slice", data:=.fields #[vl,vu,.none] } }
 exact tail_any (ops:=[.ref s3.heap.objs.size,v]) ht hT hg (by with_unfolding_all rfl)
def zON(xs:List V)(lo hi:Option Int):List V:=(xs.drop (HT.sIx xs.length 0 lo)).take (HT.sIx xs.length xs.length hi-HT.sIx xs.length 0 lo)
theorem zEO(xs:List V)(lo hi:Option Int):(zON xs lo hi).length<=xs.length:=by
 unfold zON;rw[VH,QX];omega
def zQS(K:PySem.W.Frag):R2:=fun x y H Q=>∃ a b xs ys,x=.ref a/\y=.ref b/\SqT K H a xs/\SqT K H b ys/\xs≠[]/\xs.length+ys.length<=sizeLine/\
 (ys=[]->Q (.ref a) H)/\(ys≠[]->∀ p,H p=none->Q (.ref p) (upd H p (.tup (xs++ys))))
theorem dW.nil_iff{xs:List V}{us:List Value}(r:dW xs us):us=[] ↔ xs=[]:=by
 cases r with
 | nil=>simp
 | cons _ _=>simp
theorem zNH:OpR X (binaryOp .Add) (zQS X.K):=by
 intro pins s σ H x y v u Q I rx ry h;obtain⟨a,b,xs,ys,rfl,rfl,ha,hb,hx,hz,q1,q2⟩:=h;cases rx;cases ry;obtain⟨its,r1,p1,_⟩:=I.tuple ha;obtain⟨its2,r2,p2,_⟩:=I.tuple hb;refine HT.cat_tup p1 p2 (fun z=>hx (r1.nil_iff.mp z)) (fun z=>⟨.ref a,H,I,rfl,q1 (r2.nil_iff.mp z)⟩) (fun z=>?_) (by rw[<-r1.length,<-r2.length];exact hz)
 refine⟨.ref s.heap.objs.size,_,I.laid (t':=s.toks) (o:=.tup (xs++ys)) (fun b ob q=>Heap.get?_push_of_some _ q) (Qg _) ?_,rfl,q2 (fun w=>z (r2.nil_iff.mpr w)) _ (I.hok.fresh (Qg _))⟩
 exact⟨by rw[Qm];exact hz,_,r1.append r2,IsTup.new _ _⟩
end
def ixN(n:Nat)(i:Int):Option Nat:=if 0<=i then (if i<n then some i.toNat else none) else if -(n:Int)<=i then some (i+n).toNat else none
def atI{α:Type}(xs:List α)(i:Int):Option α:=(ixN xs.length i).bind fun j=>xs[j]?
theorem zJG{n:Nat}{i:Int}{j:Nat}(h:ixN n i=some j):seqIndex? i n=some j/\j<n/\-(n:Int)<=i/\i<n:=by
 unfold ixN at h;by_cases h0:0<=i
 ·rw[if_pos h0] at h
  by_cases h1:i<n
  ·rw[if_pos h1] at h
   have e:i.toNat=j:=QP h;exact⟨by rw[seqIndex_of h0 h1,e],by omega,by omega,h1⟩
  ·rw[if_neg h1] at h;cases h
 ·rw[if_neg h0] at h
  by_cases h1:-(n:Int)<=i
  ·rw[if_pos h1] at h
   have e:(i+n).toNat=j:=QP h;exact⟨by rw[seqIndex_neg (by omega) h1,e],by omega,h1,by omega⟩
  ·rw[if_neg h1] at h;cases h
theorem zJy{α:Type}{xs:List α}{i:Int}{v:α}(h:atI xs i=some v):∃ j,seqIndex? i xs.length=some j/\xs[j]?=some v/\j<xs.length/\-(xs.length:Int)<=i/\i<xs.length:=by
 unfold atI at h
 cases e:ixN xs.length i with
 | none=>rw[e] at h;cases h
 | some j=>
  rw[e] at h;obtain⟨h1,h2,h3,h4⟩:=zJG e;exact⟨j,h1,h,h2,h3,h4⟩
theorem zEn{α:Type}{xs:List α}{j:Nat}{v:α}(h:xs[j]?=some v):atI xs (j:Int)=some v:=by
 have hj:j<xs.length:=(QC.mp h).1
 have e:ixN xs.length (j:Int)=some j:=by
  unfold ixN;rw[if_pos (by omega),if_pos (by omega)];simp
 unfold atI;rw[e];exact h
def zEC(b:Expr):Prop:=∀ o i,subscripted b false o i=operate [o,i] (getItem o i)
def IxR(X:Cx)(r:R2):Prop:=
 ∀(value slice:Expr)(pins:List (Addr×Obj))(s:Shared)(σ:St)(H:Hp)(x y:V)(v u:Value)(Q:VK),Inv X pins σ H s->dI x v->dI y u->r x y H Q->
  subscripted slice false v u=operate [v,u] (getItem v u)->wpAny (model X.prog X.w) X.A (subscriptTail value slice v u) (EP X pins σ Q) X.xe s
def MtR(X:Cx)(id:String)(r:V->List V->Hp->VK->Prop):Prop:=
 ∀(pins:List (Addr×Obj))(s:Shared)(σ:St)(H:Hp)(x:V)(xs:List V)(v:Value)(us:List Value)(Q:VK),Inv X pins σ H s->dI x v->dW xs us->r x xs H Q->
  wpAny (model X.prog X.w) X.A (call (.builtin id) (v::us)) (EP X pins σ Q) X.xe s
section
variable{X:Cx}{a b:Expr}{ta tb:TE}{pos:Pos}
theorem IxR.or{r r':R2}(h:IxR X r)(h':IxR X r'):IxR X (fun x y H Q=>r x y H Q∨r' x y H Q):=by
 intro value slice pins s σ H x y v u Q I rx ry q hs;rcases q with q | q
 ·exact h value slice pins s σ H x y v u Q I rx ry q hs
 ·exact h' value slice pins s σ H x y v u Q I rx ry q hs
theorem zHb{r:R2}(hr:IxR X r)(ha:PE X a ta)(hb:PE X b tb)(hs:zEC b):PE X (.Subscript a b pos) (tOp r ta tb):=by
 intro pins s σ H Q I h;exact Subscript_ (zRw ha hb I h fun v u s2 x y H2 I2 rx ry q=>hr a b pins s2 σ H2 x y v u Q I2 rx ry q (hs _ _))
def zRf(K:PySem.W.Frag):R2:=fun x y H Q=>∃ p xs i v,x=.ref p/\y=.int i/\SqL K H p xs/\atI xs i=some v/\Q v H
def zRi(K:PySem.W.Frag):R2:=fun x y H Q=>∃ p xs i v,x=.ref p/\y=.int i/\SqT K H p xs/\atI xs i=some v/\Q v H
theorem zNY:IxR X (zRf X.K):=by
 intro value slice pins s σ H x y v u Q I rx ry h hs;obtain⟨p,xs,i,z,rfl,rfl,hq,he,q⟩:=h;cases rx;obtain⟨t,rfl⟩:=ry;obtain⟨its,r,pl,hz⟩:=I.list hq;obtain⟨j,h1,h2,h3,h4,h5⟩:=zJy he;obtain⟨w,ew,rw'⟩:=r.get h2;have hl:=r.length;have hn:=zFT;have fin:EP X pins σ Q w s:=⟨z,H,I,rw',q⟩;by_cases h0:0<=i
 ·have hj:i.toNat=j:=by
   rw[seqIndex_of h0 h5] at h1;exact QP h1
  exact item_listR pl.isList h0 (by omega) (by rw[hj];simpa using ew) fin hs
 ·have hj:(i+(its.toArray.size:Int)).toNat=j:=by
   rw[seqIndex_neg (by omega) h4] at h1;rw[Qk,<-hl];exact QP h1
  exact subscriptTail_builtinR (x:=w) pl.isList.typeIs slot_list_getitem.lookup
   (wpAny_getItem_list_neg (Q:=fun r s'=>r=w/\EP X pins σ Q r s') pl.isList (by omega) (by rw[Qk]<;>omega) (by omega) (by rw[hj];simpa using ew) ⟨rfl,fin⟩) hs
theorem zQd:IxR X (zRi X.K):=by
 intro value slice pins s σ H x y v u Q I rx ry h hs;obtain⟨p,xs,i,z,rfl,rfl,hq,he,q⟩:=h;cases rx;obtain⟨t,rfl⟩:=ry;obtain⟨its,r,pl,hz⟩:=I.tuple hq;obtain⟨j,h1,h2,h3,h4,h5⟩:=zJy he;obtain⟨w,ew,rw'⟩:=r.get h2;have hl:=r.length;have hn:=zFT;have fin:EP X pins σ Q w s:=⟨z,H,I,rw',q⟩
 exact subscriptTail_builtinR (x:=w) pl.typeIs slot_tuple_getitem.lookup
  (getItem_tuple (j:=j) (Q:=fun r s'=>r=w/\EP X pins σ Q r s') pl (by omega) (by omega) (by rw[Qk,<-hl];exact h1) (by simpa using ew) ⟨rfl,fin⟩) hs
theorem zGZ(its:List Value)(n j:Nat)(u:Value):Obj.mapSeq (·.setIfInBounds j u) { cls:=.type "list", data:=.seq its.toArray n }={ cls:=.type "list", data:=.seq (its.set j u).toArray n }:=by
 simp[Obj.mapSeq]
theorem Inv.lst{pins:List (Addr×Obj)}{σ:St}{H:Hp}{s:Shared}{p:Addr}{xs:List V}(I:Inv X pins σ H s)(h:H p=some (.lst xs)):
  ∃(its:List Value)(n:Nat),dW xs its/\s.heap.get? p=some { cls:=.type "list", data:=.seq its.toArray n }/\xs.length<=sizeLine:=by
 obtain⟨z,its,n,r,e⟩:=I.hok p _ h;exact⟨its,n,r,e,z⟩
theorem Inv.lstUpd{pins:List (Addr×Obj)}{σ:St}{H:Hp}{s:Shared}{p:Addr}{xs ys:List V}{its its':List Value}{n n':Nat}{f:Obj->Obj}(I:Inv X pins σ H s)(h:H p=some (.lst xs))
  (ho:s.heap.get? p=some { cls:=.type "list", data:=.seq its.toArray n }) (hf:f { cls:=.type "list", data:=.seq its.toArray n }={ cls:=.type "list", data:=.seq its'.toArray n' }) (r:dW ys its') (hz:ys.length<=sizeLine) (t:Nat):
  Inv X pins σ (upd H p (.lst ys)) { s with heap:=s.heap.update p f,toks:=t }:=by
 have e:(s.heap.update p f).get? p=some { cls:=.type "list", data:=.seq its'.toArray n' }:=by
  rw[Heap.get?_update_self f ho (by rw[hf]<;>rfl),hf]
 refine I.write (x:=p) (e:=p) (by rw[h];trivial) (.inl rfl) (fun b u hb q=>(Heap.get?_update_other _ _ (Ne.symm hb)).trans q) ⟨_,e⟩ ?_
 exact⟨hz,its',n',r,e⟩
def zRJ:V->V->V->Hp->(Hp->Prop)->Prop:=fun o i v H Q=>∃ p xs k j,o=.ref p/\i=.int k/\H p=some (.lst xs)/\ixN xs.length k=some j/\Q (upd H p (.lst (xs.set j v)))
theorem zLe:zSA X zRJ:=by
 intro pins s σ H o i v ov iv u Q I ro ri rv h;obtain⟨p,xs,k,j,rfl,rfl,hp,hj,q⟩:=h;cases ro;obtain⟨t,rfl⟩:=ri;obtain⟨its,n,r,ho,hz⟩:=I.lst hp;obtain⟨h1,h2,h3,h4⟩:=zJG hj;have hl:=r.length;have hn:=zFT
 have I':Inv X pins σ (upd H p (.lst (xs.set j v))) { s with heap:=s.heap.update p (Obj.mapSeq (·.setIfInBounds j u)) }:=
  I.lstUpd hp ho (zGZ its n j u) (r.set rv j) (by rw[QE];exact hz) s.toks
 by_cases h0:0<=k
 ·have hk:k.toNat=j:=by
   rw[seqIndex_of h0 h4] at h1;exact QP h1
  exact PySem.W.ki_setAt ho h0 (by omega) (by rw[Qk,<-hl];exact h4) (by rw[hk];exact⟨_,I',q⟩)
 ·have hk:(k+(its.toArray.size:Int)).toNat=j:=by
   rw[seqIndex_neg (by omega) h3] at h1;rw[Qk,<-hl];exact QP h1
  exact PySem.W.ki_setBack ho (by omega) (by rw[Qk,<-hl];exact h3) (by omega) (by rw[hk];exact⟨_,I',q⟩)
theorem zDD(lo hi:Option Int)(n:Nat):(sliceBounds lo hi none n).1=((HT.sIx n 0 lo:Nat):Int)/\(sliceBounds lo hi none n).2.1=((HT.sIx n n hi:Nat):Int)/\(sliceBounds lo hi none n).2.2=1:=by
 refine⟨?_,?_,rfl⟩
 ·cases lo with
  | none=>simp[sliceBounds,HT.sIx]
  | some i=>
   simp only[sliceBounds,HT.sIx,Option.getD_none,show(1:Int) > 0 by decide,if_true];by_cases h:i<0
   ·simp only[h,if_true]<;>omega
   ·simp only[h,if_false]<;>omega
 ·cases hi with
  | none=>simp[sliceBounds,HT.sIx]
  | some i=>
   simp only[sliceBounds,HT.sIx,Option.getD_none,show(1:Int) > 0 by decide,if_true];by_cases h:i<0
   ·simp only[h,if_true]<;>omega
   ·simp only[h,if_false]<;>omega
theorem zAm(its:List Value)(lo hi:Option Int):slicePick its.toArray lo hi none=((its.drop (HT.sIx its.length 0 lo)).take (HT.sIx its.length its.length hi-HT.sIx its.length 0 lo)).toArray:=by
 obtain⟨h1,h2,h3⟩:=zDD lo hi its.toArray.size;unfold slicePick;rw[h1,h2,h3];simp only[sliceRange_one,pick_run,Qk]<;>rfl
def zSJ(K:PySem.W.Frag):V->Option Int->Option Int->Hp->VK->Prop:=fun x lo hi H Q=>∃ a xs,x=.ref a/\SqL K H a xs/\∀ p,H p=none->Q (.ref p) (upd H p (.lst (zON xs lo hi)))
theorem zNL:SlR X (zSJ X.K):=by
 intro pins s σ H x v vl vu lo hi sl Q I rx hs pl pu h;obtain⟨a,xs,rfl,hx,q⟩:=h;cases rx;obtain⟨its,r,ht,hz⟩:=I.list hx;have hlen:=r.length;refine⟨"list", _,slot_list_getitem.lookup,ht.isList.typeIs,?_⟩
 refine wpAny_getItem_list_slice ht.isList hs pl pu .none (by simp) ?_ (by rw[Qk]<;>omega)
 rw[zAm,<-hlen];refine⟨.ref s.heap.objs.size,_,I.laid (t':=s.toks) (o:=.lst (zON xs lo hi)) (fun b ob q=>Heap.get?_push_of_some _ q) (Qg _) ?_,rfl,q _ (I.hok.fresh (Qg _))⟩
 exact⟨QD (zEO xs lo hi) hz,_,0,(r.drop (HT.sIx xs.length 0 lo)).take (HT.sIx xs.length xs.length hi-HT.sIx xs.length 0 lo),Heap.get?_push_size _ rfl⟩
theorem aQ:tP X (.builtin "len") (fun xs H Q=>∃ p ys,xs=[.ref p]/\(SqL X.K H p ys∨SqT X.K H p ys)/\Q (.int ys.length) H):=by
 intro pins s σ H xs us Q I r h;obtain⟨p,ys,rfl,hq,q⟩:=h;obtain⟨u,rfl,rx⟩:=zBj r;cases rx;have hn:=zFT;rcases hq with hq | hq
 ·obtain⟨its,r',pl,hz⟩:=I.list hq
  have hlen:=r'.length;exact Calls.call_len_list pl.isList (by simp only[Qk]<;>omega) ⟨.int ys.length,H,I.tok _,⟨s.toks+1,by rw[Qk,hlen]⟩,q⟩
 ·obtain⟨its,r',pl,hz⟩:=I.tuple hq
  have hlen:=r'.length;exact len_tuple pl (by simp only[Qk]<;>omega) ⟨.int ys.length,H,I.tok _,⟨s.toks+1,by rw[Qk,hlen]⟩,q⟩
theorem zDe:tP X (.type "list") (fun xs H Q=>∃ p ys,xs=[.ref p]/\(SqL X.K H p ys∨SqT X.K H p ys)/\∀ l,H l=none->Q (.ref l) (upd H l (.lst ys))):=by
 intro pins s σ H xs us Q I r h;obtain⟨p,ys,rfl,hq,q⟩:=h;obtain⟨u,rfl,rx⟩:=zBj r;cases rx
 have fin:∀(its:List Value),dW ys its->ys.length<=sizeLine->∀(h':Heap)(c':Nat),(∀ b o',s.heap.get? b=some o'->h'.get? b=some o')->
   h'.get? s.heap.objs.size=some { cls:=.type "list", dict:=none,data:=.seq its.toArray c',slots:=#[] }->EP X pins σ Q (.ref s.heap.objs.size) { s with heap:=h' }:=fun its r' hz h' c' kp e=>
  ⟨.ref s.heap.objs.size,_,I.laid (t':=s.toks) kp (Qg _) (show mJ X.prog X.w _ h' _ (.lst ys) from ⟨hz,its,c',r',e⟩),rfl,q _ (I.hok.fresh (Qg _))⟩
 rcases hq with hq | hq
 ·obtain⟨its,r',pl,hz⟩:=I.list hq
  have hlen:=r'.length;obtain⟨o,ho,hc,n,hd⟩:=pl.isList;exact call_list_seq p (.inl rfl) ho hc hd (fun h' c' kp e=>fin its r' hz h' c' kp e) (by simp only[Qk]<;>omega)
 ·obtain⟨its,r',pl,hz⟩:=I.tuple hq
  have hlen:=r'.length;obtain⟨o,ho,hc,n,hd⟩:=pl;exact call_list_seq p (.inr rfl) ho hc hd (fun h' c' kp e=>fin its r' hz h' c' kp e) (by simp only[Qk]<;>omega)
theorem iS:tP X (.type "tuple") (fun xs H Q=>∃ p ys,xs=[.ref p]/\((SqL X.K H p ys/\∀ l,H l=none->Q (.ref l) (upd H l (.tup ys)))∨(SqT X.K H p ys/\Q (.ref p) H))):=by
 intro pins s σ H xs us Q I r h;obtain⟨p,ys,rfl,h⟩:=h;obtain⟨u,rfl,rx⟩:=zBj r;cases rx;rcases h with⟨hq,q⟩ | ⟨hq,q⟩
 ·obtain⟨its,r',pl,hz⟩:=I.list hq
  have hlen:=r'.length;refine call_tuple_list pl.isList (fun h' kp=>?_) (by simp only[Qk]<;>omega)
  have I1:Inv X pins σ H { s with heap:=h' }:=I.kept (t':=s.toks) kp
  have I2:Inv X pins σ (upd H h'.objs.size (.tup ys)) { s with heap:=h'.push { cls:=.type "tuple", data:=.seq its.toArray } }:=
   I1.laid (t':=s.toks) (fun b o e=>Heap.get?_push_of_some _ e) (Qg _) (show mJ X.prog X.w _ _ _ (.tup ys) from ⟨hz,its,r',IsTup.new _ _⟩)
  exact⟨.ref h'.objs.size,_,I2,rfl,q _ (I1.hok.fresh (Qg _))⟩
 ·obtain⟨its,r',pl,hz⟩:=I.tuple hq
  exact call_tuple_same pl ⟨.ref p,H,I,rfl,q⟩
def tyV(K:PySem.W.Frag)(T:String)(x:V)(H:Hp):Prop:=match x with
 | .str _=>T = "str"
 | .int _=>T = "int"
 | .ref p=>(T = "list" /\ ∃ xs,SqL K H p xs)∨(T = "tuple" /\ ∃ o,K.lookup p=some o/\o.cls=.type "tuple" /\ o.dict=none)∨
   (T = "dict" /\ ((∃ kvs,H p=some (.dK kvs))∨∃ kvs,H p=some (.dT kvs)))∨(T = "set" /\ ∃ S n,H p=some (.set S n))
 | _=>False
theorem zLO{pins:List (Addr×Obj)}{σ:St}{H:Hp}{s:Shared}{T:String}{x:V}{v:Value}(I:Inv X pins σ H s)(r:dI x v)(ty:tyV X.K T x H):
  s.TypeIs v T/\∀ a,v=.ref a->∃ ob,s.heap.get? a=some ob/\ob.dict=none:=by
 cases x with
 | str z=>
  obtain⟨t,rfl⟩:=r;cases (show T = "str" from ty)
  exact⟨typeIs_str s z t,fun _ e=>nomatch e⟩
 | int i=>
  obtain⟨t,rfl⟩:=r;cases (show T = "int" from ty)
  exact⟨typeIs_int s i t,fun _ e=>nomatch e⟩
 | ref p=>
  cases r;rcases ty with⟨rfl,xs,hq⟩ | ⟨rfl,o,hk,hc,hd⟩ | ⟨rfl,hk⟩ | ⟨rfl,S,n,hk⟩
  ·obtain⟨its,_,pl,_⟩:=I.list hq
   refine⟨pl.isList.typeIs,fun a e=>?_⟩
   cases e;obtain⟨o,n,e,c,hd,_⟩:=pl;exact⟨o,e,hd⟩
  ·refine⟨⟨o,I.kIn p o hk,hc⟩,fun a e=>?_⟩
   cases e;exact⟨o,I.kIn _ o hk,hd⟩
  ·have z:∃ o,s.heap.get? p=some o/\o.ExactDict:=by
    rcases hk with⟨kvs,hk⟩ | ⟨kvs,hk⟩
    ·obtain⟨_,_,_,_,o,_,_,e,ex,_⟩:=I.hok p _ hk
     exact⟨o,e,ex⟩
    ·obtain⟨_,_,_,_,o,_,_,e,ex,_⟩:=I.hok p _ hk
     exact⟨o,e,ex⟩
   obtain⟨o,e,ex⟩:=z;refine⟨⟨o,e,ex.1⟩,fun a e2=>?_⟩
   cases e2;exact⟨o,e,ex.2.1⟩
  ·obtain⟨o,_,_,_,e,ex,_⟩:=I.hok p _ hk
   refine⟨⟨o,e,ex.1⟩,fun a e2=>?_⟩
   cases e2;exact⟨o,e,ex.2.1⟩
 | _=>exact False.elim ty
abbrev zSR(K:PySem.W.Frag)(T:String)(r:V->List V->Hp->VK->Prop)(to:TE):TE:=fun σ H Q=>to σ H fun x H1=>tyV K T x H1/\r x [] H1 Q
abbrev tBM(K:PySem.W.Frag)(T:String)(r:V->List V->Hp->VK->Prop)(to:TE)(t:TA):TE:=fun σ H Q=>to σ H fun x H1=>tyV K T x H1/\t σ H1 fun xs H2=>r x xs H2 Q
variable{o e:Expr}{es:List Expr}{to:TE}{t:TA}{name:Str}{apos cpos:Pos}{T id:String}{r:V->List V->Hp->VK->Prop}
theorem zQN(pa:PlainAttrs T)(slot:Slot T name id)(hty:typeOf (.builtin id)=pure (.type "method_descriptor"))(hm:MtR X id r)(ho:PE X o to)
  (hbase:attributeBase o name X.env (eval o X.env)=eval o X.env:=by rfl) (hline:(apos.endLine==cpos.line)=true:=by rfl):PE X (.Call (.Attribute o name apos) [] [] cpos) (zSR X.K T r to):=by
 intro pins s σ H Q I h;refine wpAny_Call_method0_late hbase hline (thn (ho pins s σ H _ I h) fun v s1 ⟨x,H1,I1,r1,ty,q1⟩=>?_)
 obtain⟨h1,h2⟩:=zLO I1 r1 ty;exact⟨T,id,pa,slot,hty,h1,h2,Calls.callWith_builtin rfl (PySem.evalArgs_none (hm pins s1 σ H1 x [] v [] Q I1 r1 .nil q1))⟩
theorem zQa(pa:PlainAttrs T)(slot:Slot T name id)(hty:typeOf (.builtin id)=pure (.type "method_descriptor"))(hm:MtR X id r)(ho:PE X o to)(ha:PA X (e::es) t)
  (hbase:attributeBase o name X.env (eval o X.env)=eval o X.env:=by rfl)
  (hfew:((backTo cpos (starEach (e::es) X.env)).all (fun x=>!x.1) && (backToKw cpos (keywordEach [] X.env)).all (fun x=>x.1.isSome)
   && decide ((e::es).length+([]:List Keyword).length+(if ([]:List Keyword).isEmpty then 0 else 1)<30))=true:=by rfl)
  (hline:(apos.endLine==cpos.line)=true:=by rfl) (hs:starEach (e::es) X.env=(false,eval e X.env)::starEach es X.env:=by rfl) (hplain:(backTo cpos (starEach es X.env)).any (·.1)=false:=by rfl):
  PE X (.Call (.Attribute o name apos) (e::es) [] cpos) (tBM X.K T r to t):=by
 intro pins s σ H Q I h;refine wpAny_Call_method_late hbase hfew hline rfl (thn (ho pins s σ H _ I h) fun v s1 ⟨x,H1,I1,r1,ty,q1⟩=>?_)
 obtain⟨h1,h2⟩:=zLO I1 r1 ty;refine⟨T,id,pa,slot,hty,h1,h2,?_⟩
 have hA:=ha cpos pins s1 σ H1 _ I1 q1;rw[hs] at hA ⊢
 refine Calls.callWith_builtin (by show(false || (backTo cpos (starEach es X.env)).any (·.1))=false;rw[hplain]<;>rfl) (Calls.evalArgs_plain ?_)
 exact thn hA fun us s2 ⟨vs,H2,I2,r2,q2⟩=>hm pins s2 σ H2 x vs v us Q I2 r1 r2 q2
end
def MtM(X:Cx)(id:String)(r:V->List V->Hp->VK->Prop):Prop:=
 ∀(pins:List (Addr×Obj))(s:Shared)(σ:St)(H:Hp)(x:V)(xs:List V)(v:Value)(us:List Value)(Q:VK),Inv X pins σ H s->dI x v->dW xs us->r x xs H Q->
  wpAny (model X.prog X.w) X.A (call (.builtin id) (v::us)) (EP X pins σ Q) X.xe s
theorem dW.one:∀ {x:V} {us:List Value},dW [x] us->∃ u,us=[u]/\dI x u
 | _,_,.cons r .nil=>⟨_,rfl,r⟩
theorem dW.zero:∀ {us:List Value},dW [] us->us=[]
 | _,.nil=>rfl
theorem dW.dropLast{xs:List V}{us:List Value}(h:dW xs us):dW xs.dropLast us.dropLast:=by
 induction h with
 | nil=>exact .nil
 | cons r t ih=>
  cases t with
  | nil=>exact .nil
  | cons q t'=>exact .cons r ih
theorem dW.rep{xs:List V}{us:List Value}(h:dW xs us):∀ k:Nat,dW (List.replicate k xs).flatten (List.replicate k us).flatten
 | 0=>.nil
 | k+1=>by
  rw[Vz,Vz,VJ,VJ];exact dW.append h (dW.rep h k)
theorem zGO{α:Type}(l:List α):l.eraseIdx (l.length-1)=l.dropLast:=by
 induction l with
 | nil=>rfl
 | cons a r ih=>
  cases r with
  | nil=>rfl
  | cons b r=>
   have e:(a::b::r).length-1=((b::r).length-1)+1:=by
    have h1:(a::b::r).length=r.length+2:=rfl;have h2:(b::r).length=r.length+1:=rfl;omega
   rw[e,List.eraseIdx_cons_succ,ih]
   all_goals rfl
theorem zCa(its:List Value):∀(k:Nat)(acc:List Value),
  List.foldl (fun x1 x2=>x1++x2) acc.toArray (List.replicate k its.toArray)=(acc++(List.replicate k its).flatten).toArray
 | 0,acc=>by simp
 | k+1,acc=>by
  have e:acc.toArray++its.toArray=(acc++its).toArray:=by simp
  have e2:(acc++its)++(List.replicate k its).flatten=acc++(List.replicate (k+1) its).flatten:=by
   rw[Vz,VJ,QY]
  rw[<-e2,<-zCa its k (acc++its),<-e,Vz,XC]
section
variable{X:Cx}{pins:List (Addr×Obj)}{σ:St}{H:Hp}{s:Shared}{l b:Addr}{xs ys zs:List V}
theorem Inv.lset{its its':List Value}{n:Nat}{f:Array Value->Array Value}{t':Nat}(I:Inv X pins σ H s)(hH:H l=some (.lst xs))
  (e:s.heap.get? l=some { cls:=.type "list", data:=.seq its.toArray n }) (hf:f its.toArray=its'.toArray) (hv:dW ys its') (hz:ys.length<=sizeLine):
  Inv X pins σ (upd H l (.lst ys)) { s with heap:=s.heap.update l (Obj.mapSeq f),toks:=t' }:=by
 have q:=PySem.IsL.update e f;rw[hf] at q;refine I.write (x:=l) (e:=l) (by rw[hH];exact trivial) (.inl rfl) (fun b' u hb hu=>(Heap.get?_update_other s.heap (Obj.mapSeq f) (Ne.symm hb)).trans hu) ⟨_,q⟩ ?_
 exact⟨hz,its',_,hv,q⟩
theorem Inv.lnew{its:List Value}{t':Nat}(I:Inv X pins σ H s)(hv:dW ys its)(hz:ys.length<=sizeLine):
  Inv X pins σ (upd H s.heap.objs.size (.lst ys)) { s with heap:=s.heap.push { cls:=.type "list", data:=.seq its.toArray },toks:=t' }:=
 I.laid (fun _ _ q=>Heap.get?_push_of_some _ q) (Qg _) ⟨hz,its,0,hv,Heap.get?_push_size _ rfl⟩
theorem Inv.fresh(I:Inv X pins σ H s):H s.heap.objs.size=none:=I.hok.fresh (Qg _)
theorem Inv.lstM(I:Inv X pins σ H s)(hH:H l=some (.lst xs)):xs.length<=sizeLine/\∃(its:List Value)(n:Nat),dW xs its/\xs.length=its.length/\s.heap.get? l=some { cls:=.type "list", data:=.seq its.toArray n }:=by
 obtain⟨z,its,n,r,e⟩:=I.hok l _ hH;exact⟨z,its,n,r,r.length,e⟩
theorem zFj{n:Nat}(h:n<=sizeLine):Builtin.List.listTooLong n=false:=by
 unfold Builtin.List.listTooLong;exact decide_eq_false (by omega)
end
section
variable{X:Cx}
def zNm:V->List V->Hp->VK->Prop:=fun x vs H Q=>∃ l xs y,x=.ref l/\vs=[y]/\H l=some (.lst xs)/\xs.length<sizeLine/\Q .non (upd H l (.lst (xs++[y])))
theorem uQ:MtM X "list.append" zNm:=by
 intro pins s σ H x vs v us Q I rx rv h;obtain⟨l,xs,y,rfl,rfl,hH,hz,q⟩:=h;cases rx;obtain⟨u,rfl,ru⟩:=rv.one;obtain⟨z,its,n,r,hl,e⟩:=I.lstM hH;refine call_meets F.slot_list_append ⟨_,e,rfl⟩ F.entry_list_append (F.args_list_append_2 _ _) (PySem.list_append l its.toArray n u (by rw[Qk];omega)) ⟨e,?_⟩
 refine⟨.non,_,I.lset (its':=its++[u]) hH e (by simp) (r.append (.cons ru .nil)) ?_,rfl,q⟩
 rw[Qm,XD];omega
def zNf:V->List V->Hp->VK->Prop:=fun x vs H Q=>∃ l b xs zs,x=.ref l/\vs=[.ref b]/\H l=some (.lst xs)/\H b=some (.lst zs)/\xs.length+zs.length<=sizeLine/\Q .non (upd H l (.lst (xs++zs)))
theorem zIc:MtM X "list.extend" zNf:=by
 intro pins s σ H x vs v us Q I rx rv h;obtain⟨l,b,xs,zs,rfl,rfl,hH,hB,hz,q⟩:=h;cases rx;obtain⟨u,rfl,ru⟩:=rv.one;cases ru;obtain⟨z,its,n,r,hl,e⟩:=I.lstM hH;obtain⟨z2,its2,n2,r2,hl2,e2⟩:=I.lstM hB;have hsz:its.toArray.size+its2.toArray.size<=sizeLine:=by rw[Qk,Qk];omega
 have hlong:¬ (!its.toArray.isEmpty && Builtin.List.listTooLong (its.toArray.size+its2.toArray.size))=true:=by
  rw[zFj hsz,Bool.and_false];exact Xc
 refine call_meets F.slot_list_extend ⟨_,e,rfl⟩ F.entry_list_extend (F.args_list_extend_2 _ _)
  (AutoSeq1.list_extend_list_list_0 l its.toArray n b its2.toArray n2 hlong (by rw[Qk];omega) (by omega)) ⟨e,e2,?_⟩
 refine⟨.non,_,I.lset (its':=its++its2) hH e (by simp) (r.append r2) ?_,rfl,q⟩
 rw[Qm];omega
def zSF:V->List V->Hp->VK->Prop:=fun x vs H Q=>∃ l xs y,x=.ref l/\vs=[]/\H l=some (.lst xs)/\xs[xs.length-1]?=some y/\Q y (upd H l (.lst xs.dropLast))
theorem zPe:MtM X "list.pop" zSF:=by
 intro pins s σ H x vs v us Q I rx rv h;obtain⟨l,xs,y,rfl,rfl,hH,hy,q⟩:=h;cases rx;have hus:=rv.zero;subst hus;obtain⟨z,its,n,r,hl,e⟩:=I.lstM hH;obtain⟨u,hu,ru⟩:=r.get hy
 have hy':its.toArray[its.toArray.size-1]?=some u:=by
  show its.toArray[its.length-1]?=some u
  rw[<-XF,<-hl];exact hu
 refine call_meets F.slot_list_pop ⟨_,e,rfl⟩ F.entry_list_pop (F.args_list_pop_1 _) (MeetsSeq.list_pop_last l its.toArray n u hy' (by rw[Qk];omega)) ⟨e,?_⟩
 refine⟨y,_,I.lset (its':=its.dropLast) hH e ?_ r.dropLast ?_,ru,q⟩
 ·show its.toArray.eraseIdxIfInBounds (its.toArray.size-1)=its.dropLast.toArray
  rw[Qk,List.eraseIdxIfInBounds_toArray,zGO]
 ·rw[List.length_dropLast]
  omega
def zSH:R2:=fun x y H Q=>∃ l k xs,x=.ref l/\y=.int k/\H l=some (.lst xs)/\-(2^63)<=k/\k<2^63/\xs.length*k.toNat<=sizeLine/\
 ∀ p,H p=none->Q (.ref p) (upd H p (.lst (List.replicate k.toNat xs).flatten))
theorem zOo{α:Type}(xs:List α)(k:Nat):(List.replicate k xs).flatten.length=k*xs.length:=by
 induction k with
 | zero=>simp
 | succ k ih=>rw[Vz,VJ,Qm,ih,Nat.succ_mul,Nat.add_comm]
theorem zPB:OpR X (binaryOp .Mult) zSH:=by
 intro pins s σ H x y v u Q I rx ry h;obtain⟨l,k,xs,rfl,rfl,hH,h1,h2,hz,q⟩:=h;cases rx;obtain⟨t,rfl⟩:=ry;obtain⟨z,its,n,r,hl,e⟩:=I.lstM hH;have hlen:its.toArray.size*k.toNat<=sizeLine:=by rw[Qk,<-hl];exact hz
 have hcap:¬ its.toArray.size*k.toNat > (2^63-1) / 8:=by
  have:(sizeLine:Nat)<=(2^63-1) / 8:=by decide
  omega
 have hfit:¬ (!Builtin.List.listFitsIndex k)=true:=by
  rw[fitsIndex_both h1 h2];exact Xc
 have hlong:¬ Builtin.List.listTooLong (its.toArray.size*k.toNat)=true:=by
  rw[zFj hlen];exact Xc
 have hnew:List.foldl (fun x1 x2=>x1++x2) #[] (List.replicate (if its.toArray.isEmpty=true then 0 else k.toNat) its.toArray)=(List.replicate k.toNat its).flatten.toArray:=by
  have f0:∀ m:Nat,List.foldl (fun x1 x2=>x1++x2) #[] (List.replicate m its.toArray)=(List.replicate m its).flatten.toArray:=fun m=>by
   have:=zCa its m []
   rw[VA] at this;exact this
  rw[f0]
  cases its with
  | nil=>simp
  | cons a r'=>rw[if_neg (by simp)]
 refine wpAny_binaryOp_repeat_ref (T := "list") (U := "int") (by decide) ⟨_,e,rfl⟩ (fun s'=>typeIs_int s' k t) noFill_list_mul F.fills_int_mul F.slot_int_rmul repeat_list F.slot_int_index.lookup
  (call_meets F.slot_int_rmul (typeIs_int s k t) F.entry_int_rmul (F.args_int_rmul_2 _ _) (int___rmul___int_list k t l its.toArray n)
   ⟨e,rfl,⟨_,e,rfl⟩,call_meets F.slot_list_mul ⟨_,e,rfl⟩ F.entry_list_mul (F.args_list_mul_2 _ _) (AutoListH.list___mul___list_int_3 l its.toArray n k t hfit hcap hlong) ⟨e,?_⟩⟩)
 rw[hnew];exact⟨.ref _,_,I.lnew (t':=s.toks) (r.rep k.toNat) (by rw[zOo,Nat.mul_comm];exact hz),rfl,q _ I.fresh⟩
end
section
variable{prog:Program}{w:World}{A:Around}{E:Value->Shared->Prop}{s:Shared}
set_option maxRecDepth 100000 in
end
section
variable{X:Cx}
end
end L2
namespace Att
open PySem PySem.W PySem.Calls PyProof.Rows
theorem wC{P:Params}{h:Heap}:∀(ns:List Int)(vs:List Value),WellAll P h vs (ns.map WData.int)->IntsAre vs ns:=by
 intro ns
 induction ns with
 | nil=>
  intro vs w;rw[Vp] at w;cases w;exact .nil
 | cons n ns ih=>
  intro vs w;rw[Qs] at w
  cases w with
  | cons a b=>
   cases a;exact .cons _ _ (ih _ b)
theorem script_of{l:OpenLaw}{n:Nat}(hn:l.most=some n){P:Params}{h:Heap}{args:List WData}{vals:List Value}
  (hpre:l.row.toRowW.claim.pre args=true) (hwl:WellAll P h vals args):
  ∃ a vs ns,vals=[Value.ref a]/\args=[WData.list (ns.map WData.int)]/\h.get? a=some { cls:=.type "list", data:=.seq vs.toArray }/\IntsAre vs ns/\ns.length<=n:=by
 have hsh:WShape.hasAll [] args [.list .int]=true:=(pre_splitW hpre).1;have hc:l.pre.holds [] { args:=args }=true:=(pre_splitW hpre).2;obtain⟨d,r,rfl,h1,h2⟩:=hasAllW_cons hsh;obtain rfl:=hasAllW_nil h2;obtain⟨xs,rfl,h3⟩:=hasW_list h1;obtain⟨ns,rfl⟩:=items_int h3
 have hlen:ns.length<=n:=by
  unfold OpenLaw.pre at hc
  have h4:(WTm.not (.lt (.lit (.int (n:Int))) (.len (.arg 0)))).holds [] { args:=[.list (ns.map .int)] }=true:=by
   have h4:=(holds_andW hc).1;rw[hn] at h4;exact h4
  have h5:=condW_of h4 (w_not (w_lt w_lit (w_len_list (w_arg rfl))));rw[Qe] at h5;refine Nat.le_of_not_lt fun q=>?_
  have q':(n:Int)<((ns.length:Nat):Int):=by omega
  first
   | (rw[decide_eq_true q'] at h5;exact absurd h5 (by decide))
   | (simp at h5;omega)
 cases hwl with
 | cons w1 w2=>
  cases w2
  cases w1 with
  | list ho hall=>exact⟨_,_,ns,rfl,rfl,ho,wC ns _ hall,hlen⟩
theorem post_true(l:OpenLaw)(args:List WData):l.row.toRowW.claim.post args (.bool true) args=true:=
 postW_of (r:=l.row.toRowW) (X:=(true==true))
  (show WShape.has [] (.bool true) .bool=true by first | rfl | decide | simp[WShape.has,WShape.arms,WShape.armsAll])
  (show(WTm.eq .res (.lit (.bool true))).value [] { args:=args,res:=some (.bool true),after:=args }=some (.bool (true==true)) from w_eq_bool (w_res rfl) w_lit) rfl
section
variable{prog:Program}{w:World}{A:Around}{E:Value->Shared->Prop}{s:Shared}{K:Frag}
end
end Att
namespace L2
open PySem PySem.Spec PyProof.Rows
theorem zCl:∀ {vs:List Value} {ns:List Int},IntsAre vs ns->dW (ns.map V.int) vs
 | _,_,.nil=>.nil
 | _,_,.cons n t h=>.cons ⟨t,rfl⟩ (zCl h)
def zSY(H:Hp):Prop:=∀ b,H b=none∨∃ o xs,H b=some (.frz o (.lst xs))
def kK(s:Stmt):Arguments:=match s with
 | .FunctionDef _ a _ _ _ _ _ _ _ _=>a
 | _=>{ posonlyargs:=[],args:=[],vararg:=none,kwonlyargs:=[],kw_defaults:=[],kwarg:=none,defaults:=[] }
def fW(s:Stmt):List Stmt:=match s with
 | .FunctionDef _ _ b _ _ _ _ _ _ _=>b
 | _=>[]
def aH(s:Stmt):Scope:=match s with
 | .FunctionDef _ _ _ _ _ _ sc _ _ _=>sc
 | _=>{ kind:=.function,names:=[],isGenerator:=false,isCoroutine:=false }
structure Fun (K:PySem.W.Frag) (x qual:Str) (st:Stmt) (f:Addr) (fd:FuncData):Prop where
 ex:∃(oc:Value)(od:Option Addr)(kV doc pm:Value)(an:Option Addr)(cdv ct:Value)(osl:Array (Option Value)),
  fd=PySem.W.fnOf x qual (kK st) (fW st) (aH st) .none kV doc pm an cdv ct/\K.lookup f=some ⟨oc,od,.func fd,osl⟩/\PySem.W.codeIn K cdv qual=true
 kp:PySem.W.keepIn K (.ref f)=true
section
variable{P:Program}{w:World}{K:Fg_}{mg:Str->Option Value}{base:Heap}
theorem Fun.binds{x qual:Str}{st:Stmt}{f:Addr}{fd:FuncData}{ps:List Str}(F:Fun K x qual st f fd)
  (h:∀(kV doc pm:Value)(an:Option Addr)(cdv ct:Value)(us:List Value),us.length=ps.length->bindArgs (PySem.W.fnOf x qual (kK st) (fW st) (aH st) .none kV doc pm an cdv ct) ⟨us,[]⟩=pure (ps.zip us)):zCn K fd ps []:=by
 obtain⟨oc,od,kV,doc,pm,an,cdv,ct,osl,rfl,lk,hcd⟩:=F.ex;exact .all (h kV doc pm an cdv ct)
theorem yR{x qual:Str}{st:Stmt}{f:Addr}{oc:Value}{od an:Option Addr}{osl:Array (Option Value)}{kV doc pm cdv ct:Value}(l:K.lookup f=some ⟨oc,od,.func (PySem.W.fnOf x qual (kK st) (fW st) (aH st) .none kV doc pm an cdv ct),osl⟩)
  (c:PySem.W.codeIn K cdv qual=true) (k:PySem.W.keepIn K (.ref f)=true):Fun K x qual st f (PySem.W.fnOf x qual (kK st) (fW st) (aH st) .none kV doc pm an cdv ct):=⟨⟨oc,od,kV,doc,pm,an,cdv,ct,osl,rfl,l,c⟩,k⟩
end
section
variable{X:Cx}
theorem pv(i:Nat){x:Str}{pos:Pos}(hN:X.N[i]?=some x:=by rfl)(hv:Vis X.env.scope x:=by first | exact Or.inl rfl | exact Or.inr (Or.inl rfl) | exact Or.inr (Or.inr rfl))(hd:(x==("__debug__" : Str))=false:=by decide)
  (hcd:(x==("__classdict__" : Str))=false:=by decide):PE X (.Name x pos) (zFO i):=vT hN hv hd hcd
end
def Same(H H':Hp):Prop:=∀ b o,H b=some o->H' b=some o
theorem Same.refl(H:Hp):Same H H:=fun _ _ h=>h
theorem Same.trans{H H1 H2:Hp}(a:Same H H1)(b:Same H1 H2):Same H H2:=fun c o h=>b c o (a c o h)
end L2
set_option maxHeartbeats 4000000
set_option exponentiation.threshold 20000
namespace L2
open PySem PySem.Spec PyProof.Rows
section
variable{X:Cx}
variable{tg:Expr}
end
section
variable{P:Program}{w:World}{H H':Hp}{h:Heap}{a:Addr}{o:HO}
theorem mJ.here(x:mJ P w H h a o):∃ ob,h.get? a=some ob:=by
 cases o with
 | lst xs=>obtain⟨_,_,_,_,e⟩:=x;exact⟨_,e⟩
 | tup xs=>obtain⟨_,_,_,e⟩:=x;obtain⟨ob,e,_⟩:=e;exact⟨_,e⟩
 | dK kvs=>obtain⟨_,_,_,_,e⟩:=x;obtain⟨ob,_,_,e,_⟩:=e;exact⟨_,e⟩
 | dT kvs=>obtain⟨_,_,_,_,ob,_,_,e,_⟩:=x;exact⟨_,e⟩
 | set S n=>obtain⟨ob,_,_,_,e,_⟩:=x;exact⟨_,e⟩
 | ins C dx fs=>obtain⟨_,_,_,e,_⟩:=x;exact⟨_,e⟩
 | own y=>exact x
 | xd fs=>obtain⟨_,⟨ob,_,_,e,_⟩,_⟩:=x;exact⟨_,e⟩
 | met f y=>exact⟨_,x⟩
 | rng lo hi=>obtain⟨_,_,_,e⟩:=x;exact⟨_,e⟩
 | frz ob u=>exact⟨_,x.1⟩
 | tbl ps=>exact⟨_,x⟩
 | ext φ=>exact x.2.1
theorem HOk.none_of(ok:HOk P w H h)(e:h.get? a=none):H a=none:=by
 cases q:H a with
 | none=>rfl
 | some o=>
  obtain⟨ob,z⟩:=(ok a o q).here;rw[e] at z;cases z
end
structure Fly (P:Program) (w:World) (l:List Env) (H H':Hp) (s:Shared) (ea:Addr) (cls:Value) (s':Shared):Prop where
 os:s'.os=s.os
 bare:AllBare s'.gens
 un:Un (frs l) [] H H' s.heap s'.heap
 hok:HOk P w H' s'.heap
 ne:H' ea=none
 new:s.heap.get? ea=none
 fly:∃ B a0,Heap.FlyingW B l ea cls a0 s'.heap/\(∀ b o,s'.heap.get? b=some o->((∃ o',s.heap.get? b=some o')∨H' b≠none)->b∉frs l->B.get? b=some o)
def CX1(P:Program)(w:World):CXT:=fun outer H s E e s'=>∃ ea cls H',e=.ref ea/\Fly P w outer H H' s ea cls s'/\E cls none H'
structure Own (X:Cx):Prop where
 stk:X.stack=X.env::X.outer
 fr:X.env.frame=some X.env.locals
 ex:X.ex=[]
section
variable{X:Cx}{pins:List (Addr×Obj)}{σ:St}{H H':Hp}{s s':Shared}{ea:Addr}{cls:Value}
theorem zFi(O:Own X):frs X.stack=X.env.locals::X.fs:=by
 rw[O.stk];show List.filterMap _ (_::_)=_
 rw[Xj,O.fr];rfl
theorem Inv.there0(I:Inv X pins σ H s)(O:Own X){b:Addr}{o:Obj}(e:X.s₀.heap.get? b=some o):∃ o',s.heap.get? b=some o':=I.base.there b o e (by rw[O.ex];simp)
theorem Inv.ne0(I:Inv X pins σ H s){b:Addr}{o:Obj}(e:X.s₀.heap.get? b=some o):b≠X.env.locals:=Qt (Qp (Heap.lt_size e) I.ok.above)
theorem Fly.leave(I:Inv X pins σ H s)(O:Own X)(F:Fly X.prog X.w X.stack H H' s ea cls s'){h':Heap}{B:Heap}{a0:Value}
  (hf:Heap.FlyingW B X.stack ea cls a0 s'.heap) (cov:∀ b o,s'.heap.get? b=some o->((∃ o',s.heap.get? b=some o')∨H' b≠none)->b∉frs X.stack->B.get? b=some o)
  (hf':Heap.FlyingW B X.outer ea cls a0 h') (up:s'.heap.UpToSlots h'):Fly X.prog X.w X.outer X.H₀ H' X.s₀ ea cls { s' with heap:=h' }:=by
 have fst:frs X.stack=X.env.locals::X.fs:=zFi O;have nin:∀ {b:Addr},b≠X.env.locals->b∉X.fs->b∉frs X.stack:=fun h1 h2=>by rw[fst];simp[h1,h2]
 have trk:∀ {b:Addr},H' b≠none->b∉frs X.stack:=fun {b} hb hm=>by
  have h1:=I.stkFree b hm;obtain⟨_,o,ho,_⟩:=I.stack.mem hm;exact hb (F.un.free b o ho h1 (by simp))
 have keepB:∀ {b:Addr} {o:Obj},s'.heap.get? b=some o->((∃ o',s.heap.get? b=some o')∨H' b≠none)->b∉frs X.stack->h'.get? b=some o:=fun e1 e2 e3=>hf'.1 _ _ (cov _ _ e1 e2 e3)
 have slotOf:∀ {b:Addr} {o:Obj},b∈frs X.stack->s'.heap.get? b=some o->∃ sl,h'.get? b=some { o with slots:=sl }:=fun {b o} hm e=>by
  obtain⟨_,o',ho',hn⟩:=hf.2.2.1.mem hm;rw[e] at ho';cases ho'
  exact up b o e hn
 refine⟨F.os.trans I.os,F.bare,⟨?_,?_,?_,?_,?_,?_,?_⟩,?_,F.ne,?_,⟨B,a0,hf',?_⟩⟩
 ·intro b o e n hb hx
  have e1:=I.base.keep b o e n hb (by rw[O.ex];simp)
  have n1:=I.base.free b o e n (by rw[O.ex];simp)
  have hs:b∉frs X.stack:=nin (I.ne0 e) hb;exact keepB (F.un.keep b o e1 n1 hs (by simp)) (.inl ⟨o,e1⟩) hs
 ·intro b o e n hb hx
  obtain⟨sl,e1⟩:=I.base.slot b o e n hb (by rw[O.ex];simp)
  have n1:=I.base.free b o e n (by rw[O.ex];simp)
  have hs:b∈frs X.stack:=by rw[fst];exact Qc _ hb
  obtain⟨sl2,e2⟩:=F.un.slot b _ e1 n1 hs (by simp)
  obtain⟨sl3,e3⟩:=slotOf hs e2;exact⟨sl3,e3⟩
 ·intro b o e n hx
  obtain⟨o1,e1⟩:=I.there0 O e;exact F.un.free b o1 e1 (I.base.free b o e n (by rw[O.ex];simp)) (by simp)
 ·intro b o e hx
  obtain⟨o1,e1⟩:=I.there0 O e;obtain⟨o2,e2⟩:=F.un.there b o1 e1 (by simp)
  by_cases hs:b∈frs X.stack
  ·obtain⟨sl,e3⟩:=slotOf hs e2
   exact⟨_,e3⟩
  ·exact⟨o2,keepB e2 (.inl ⟨o1,e1⟩) hs⟩
 ·exact fun b xs e=>F.un.tups b xs (I.base.tups b xs e)
 ·exact fun b o u e=>F.un.frzs b o u (I.base.frzs b o u e)
 ·intro b ps e
  obtain⟨m1,e1⟩:=I.base.tbls b ps e;obtain⟨m2,e2⟩:=F.un.tbls b _ e1;exact⟨m1++m2,by rw[e2,Array.append_assoc]⟩
 ·intro a o e
  refine(F.hok a o e).stay (fun b u hb z=>?_) (fun b z=>z) (fun b xs z=>z)
  have hb':H' b≠none:=by
   rcases hb with rfl | hb
   ·rw[e];simp
   ·rw[hb];simp
  exact keepB z (.inr hb') (trk hb')
 ·show X.s₀.heap.get? ea=none
  cases q:X.s₀.heap.get? ea with
  | none=>rfl
  | some o=>
   obtain⟨o1,e1⟩:=I.there0 O q;rw[F.new] at e1;cases e1
 ·intro b o e c hb
  have c':(∃ o',s.heap.get? b=some o')∨H' b≠none:=by
   rcases c with⟨o',c⟩ | c
   ·exact .inl (I.there0 O c)
   ·exact .inr c
  have hs:b∉frs X.stack:=by
   rcases c with⟨o',c⟩ | c
   ·exact nin (I.ne0 c) hb
   ·exact trk c
  have ex:∃ o2,s'.heap.get? b=some o2:=by
   rcases c' with⟨o',c1⟩ | c1
   ·exact F.un.there b o' c1 (by simp)
   ·cases q:H' b with
    | none=>exact absurd q c1
    | some u=>exact(F.hok b u q).here
  obtain⟨o2,e2⟩:=ex;have z:=keepB e2 c' hs;have z':h'.get? b=some o:=e;rw[z] at z';cases z'
  exact cov b o e2 c' hs
end
section
variable{X:Cx}{pins:List (Addr×Obj)}{σ:St}{H H':Hp}{s s':Shared}{ea:Addr}{cls:Value}
theorem zPg(l:List Env):∀ env∈l,∀ b,env.frame=some b->b∈frs l:=fun env he b hb=>Xy.mpr ⟨env,he,hb⟩
theorem Fly.made(I:Inv X pins σ H s)(O:Own X){vs:List Value}(hx:Heap.MadeExcOf s.heap s'.heap ea cls vs)(hos:s'.os=s.os)(hg:AllBare s'.gens){h':Heap}{t:Addr}
  (hf':Heap.FlyingW (PySem.W.hideAll s.heap (frs X.stack)) X.outer ea cls (.ref t) h') (up:s'.heap.UpToSlots h'):Fly X.prog X.w X.outer X.H₀ H X.s₀ ea cls { s' with heap:=h' }:=by
 have fst:frs X.stack=X.env.locals::X.fs:=zFi O;have nin:∀ {b:Addr},b≠X.env.locals->b∉X.fs->b∉frs X.stack:=fun h1 h2=>by rw[fst];simp[h1,h2]
 have trk:∀ {b:Addr},H b≠none->b∉frs X.stack:=fun {b} hb hm=>hb (I.stkFree b hm)
 have keepB:∀ {b:Addr} {o:Obj},s.heap.get? b=some o->b∉frs X.stack->h'.get? b=some o:=fun e1 e3=>hf'.1 _ _ (Xx _ e1 e3)
 have slotOf:∀ {b:Addr} {o:Obj},b∈frs X.stack->s.heap.get? b=some o->∃ sl,h'.get? b=some { o with slots:=sl }:=fun {b o} hm e=>by
  obtain⟨_,o',ho',hn⟩:=I.stack.mem hm;rw[e] at ho';cases ho'
  exact up b o (hx.keeps b o e) hn
 refine⟨hos.trans I.os,hg,⟨?_,?_,?_,?_,?_,?_,?_⟩,?_,?_,?_,⟨_,_,hf',?_⟩⟩
 ·intro b o e n hb hx'
  exact keepB (I.base.keep b o e n hb (by rw[O.ex];simp)) (nin (I.ne0 e) hb)
 ·intro b o e n hb hx'
  obtain⟨sl,e1⟩:=I.base.slot b o e n hb (by rw[O.ex];simp)
  have hs:b∈frs X.stack:=by rw[fst];exact Qc _ hb
  obtain⟨sl3,e3⟩:=slotOf hs e1;exact⟨sl3,e3⟩
 ·exact fun b o e n hx'=>I.base.free b o e n (by rw[O.ex];simp)
 ·intro b o e hx'
  obtain⟨o1,e1⟩:=I.there0 O e;by_cases hs:b∈frs X.stack
  ·obtain⟨sl,e3⟩:=slotOf hs e1
   exact⟨_,e3⟩
  ·exact⟨o1,keepB e1 hs⟩
 ·exact fun b xs e=>I.base.tups b xs e
 ·exact fun b o u e=>I.base.frzs b o u e
 ·exact fun b ps e=>I.base.tbls b ps e
 ·intro a o e
  refine(I.hok a o e).stay (fun b u hb z=>?_) (fun b z=>z) (fun b xs z=>z)
  have hb':H b≠none:=by
   rcases hb with rfl | hb
   ·rw[e];simp
   ·rw[hb];simp
  exact keepB z (trk hb')
 ·exact I.hok.none_of hx.new
 ·show X.s₀.heap.get? ea=none
  cases q:X.s₀.heap.get? ea with
  | none=>rfl
  | some o=>
   obtain⟨o1,e1⟩:=I.there0 O q;rw[hx.new] at e1;cases e1
 ·intro b o e c hb
  have hs:b∉frs X.stack:=by
   rcases c with⟨o',c⟩ | c
   ·exact nin (I.ne0 c) hb
   ·exact trk c
  have ex:∃ o2,s.heap.get? b=some o2:=by
   rcases c with⟨o',c1⟩ | c1
   ·exact I.there0 O c1
   ·cases q:H b with
    | none=>exact absurd q c1
    | some u=>exact(I.hok b u q).here
  obtain⟨o2,e2⟩:=ex;have z:=keepB e2 hs;have z':h'.get? b=some o:=e;rw[z] at z';cases z'
  exact Xx _ e2 hs
end
section
variable{CX:CXT}{P:Program}{w:World}{K:Fg_}{mg:Str->Option Value}{base:Heap}{N:List Str}{qual:Str}{scope:Scope}{f:Addr}{cd:Value}{A:Around}{outer:List Env}{s₀:Shared}{H₀:Hp}{E:XK}
theorem zLS:Own (zGV CX P w K mg base N qual scope f cd A outer s₀ H₀ E):=⟨rfl,rfl,rfl⟩
theorem zRO{E':XK}(h:∀ c H',E' c none H'->E c none H'):zFc (CX1 P w) (zGV (CX1 P w) P w K mg base N qual scope f cd A outer s₀ H₀ E) E':=by
 intro pins σ H s e s' I hc;obtain⟨ea,cls,H',rfl,F,q⟩:=hc;obtain⟨B,a0,hf,cov⟩:=F.fly;have O:Own (zGV (CX1 P w) P w K mg base N qual scope f cd A outer s₀ H₀ E):=zLS;exact wpAny_leaves_onW (I.ok.frames.trans (congrArg some O.stk)) O.fr hf fun h' hf' up=>⟨ea,cls,H',rfl,F.leave I O hf cov hf' up,h _ _ q⟩
theorem zDG{pins:List (Addr×Obj)}{σ:St}{H:Hp}{s s':Shared}{ea:Addr}{cls:Value}{vs:List Value}(I:Inv (zGV (CX1 P w) P w K mg base N qual scope f cd A outer s₀ H₀ E) pins σ H s)
  (hx:Heap.MadeExcOf s.heap s'.heap ea cls vs) (hos:s'.os=s.os) (hg:AllBare s'.gens) (q:E cls none H):(zGV (CX1 P w) P w K mg base N qual scope f cd A outer s₀ H₀ E).xe (.ref ea) s':=by
 have O:Own (zGV (CX1 P w) P w K mg base N qual scope f cd A outer s₀ H₀ E):=zLS;have hst:=O.stk
 exact wpAny_leaves_madeW (base:=PySem.W.hideAll s.heap (frs (zGV (CX1 P w) P w K mg base N qual scope f cd A outer s₀ H₀ E).stack)) (h:=s.heap) (I.ok.frames.trans (congrArg some O.stk)) O.fr (fun b o z=>PySem.W.of_hideAll _ z)
  (PySem.W.funFrames_hide (I.stack) (zPg _)) hx fun h' t hf' _ _ up=>⟨ea,cls,H,rfl,Fly.made I O hx hos hg hf' up,q⟩
end
structure Err (K:PySem.W.Frag) (mg:Str->Option Value) (x:Str) (C:Addr):Prop where
 own:∀ h:Heap,K.In h->∃ bm newId B initId,OwnCls x C bm newId mg h/\ExcBaseFacts B newId initId bm
end L2
namespace L3
open PySem
inductive D where
 | non | bl (b:Bool) | int (i:Int) | str (x:Str) | tup (ds:List D) | lst (ds:List D)
inductive Res (α:Type) where
 | ok (a:α) | err (c:Str) | no
def Res.bind{α β:Type}(x:Res α)(f:α->Res β):Res β:=match x with
 | .ok a=>f a
 | .err c=>.err c
 | .no=>.no
inductive Sl where
 | un | val (d:D) | own (ds:List D) | exc (c:Str) | tab (T:List (Str×Str))
abbrev Rho:=List Sl
inductive Rt where
 | v (d:D) | f (ds:List D)
def Rt.d:Rt->D
 | .v d=>d
 | .f ds=>.lst ds
inductive Fl where
 | nx (ρ:Rho) | ret (r:Rt) | brk (ρ:Rho) | ctn (ρ:Rho)
abbrev Ev:=Rho->Res D
abbrev Fv:=Rho->Res (List D)
abbrev Tv:=Rho->Res Bool
abbrev Sv:=Rho->Res Fl
abbrev Mir:=List D->Res Rt
mutual
def eqD:D->D->Bool
 | .non,.non=>true
 | .bl a,.bl b=>a==b
 | .bl a,.int b=>(if a then 1 else 0)==b
 | .int a,.bl b=>a==(if b then 1 else 0)
 | .int a,.int b=>a==b
 | .str a,.str b=>a==b
 | .tup ds,.tup es=>zHg ds es
 | .lst ds,.lst es=>zHg ds es
 | _,_=>false
def zHg:List D->List D->Bool
 | [],[]=>true
 | d::ds,e::es=>eqD d e && zHg ds es
 | _,_=>false
end
mutual
def dep:D->Nat
 | .tup ds=>depS ds+1
 | .lst ds=>depS ds+1
 | _=>0
def depS:List D->Nat
 | []=>0
 | d::ds=>max (dep d) (depS ds)
end
mutual
def noL:D->Bool
 | .tup ds=>noLs ds
 | .lst _=>false
 | _=>true
def noLs:List D->Bool
 | []=>true
 | d::ds=>noL d && noLs ds
end
theorem uW:∀ {ds:List D} {d:D},d∈ds->dep d<=depS ds
 | e::ds,d,h=>by
  rw[depS];rcases Qd.mp h with rfl | h
  ·exact Nat.le_max_left ..
  ·exact QD (uW h) (Nat.le_max_right ..)
theorem zLy:∀ {ds:List D},noLs ds=true ↔ ∀ d∈ds,noL d=true
 | []=>by simp[noLs]
 | d::ds=>by rw[noLs,Va,zLy];simp
theorem oG:∀(ds es:List D),zHg ds es=((List.range (min ds.length es.length)).all (fun j=>eqD (ds.getD j .non) (es.getD j .non)) && ds.length==es.length)
 | [],[]=>rfl
 | [],e::es=>by simp[zHg]
 | d::ds,[]=>by simp[zHg]
 | d::ds,e::es=>by
  rw[zHg,oG ds es];have h:min (d::ds).length (e::es).length=min ds.length es.length+1:=by simp only[Qn];omega
  rw[h,List.range_succ_eq_map];simp[List.all_map,Function.comp_def,Bool.and_assoc]
mutual
theorem pQ:∀ d:D,eqD d d=true
 | .non=>rfl
 | .bl b=>by simp[eqD]
 | .int i=>by simp[eqD]
 | .str x=>by simp[eqD]
 | .tup ds=>by rw[eqD];exact uL ds
 | .lst ds=>by rw[eqD];exact uL ds
theorem uL:∀ ds:List D,zHg ds ds=true
 | []=>rfl
 | d::ds=>by rw[zHg,pQ d,uL ds];rfl
end
def nb(i:Int):Nat:=i.natAbs.log2+1
theorem zNi(i:Int):i.natAbs<2^nb i:=Nat.lt_log2_self
theorem zRU{i:Int}{m:Nat}(h:i.natAbs<2^m)(hm:0<m):nb i<=m:=by
 unfold nb;by_cases h0:i.natAbs=0
 ·rw[h0];exact hm
 ·exact(Nat.log2_lt h0).mpr h
def kI(i j:Int):Bool:=(decide (-(2^64)<i) && decide (i<2^64)) || (decide (-(2^64)<j) && decide (j<2^64)) || decide (nb i+nb j<=134217728)
def mH(j:Int):Bool:=decide (j≠0) && decide (nb j<=9000)
def sR(i j:Int):Bool:=decide (0<=j) && decide ((nb i:Int)*j<=2^27)
abbrev Op2:=D->D->Res D
def uB:Op2
 | .int i,.int j=>.ok (.int (i+j))
 | .tup a,.tup b=>if a.length+b.length<=16777216 then .ok (.tup (a++b)) else .no
 | _,_=>.no
def zAx:Op2
 | .int i,.int j=>.ok (.int (i+j))
 | _,_=>.no
def tM:Op2
 | .int i,.int j=>.ok (.int (i-j))
 | _,_=>.no
def oV:Op2
 | .int i,.int j=>if kI i j=true then .ok (.int (i*j)) else .no
 | _,_=>.no
def rH:Op2
 | .int i,.int j=>if mH j=true then .ok (.int (i.fdiv j)) else .no
 | _,_=>.no
def tT:Op2
 | .int i,.int j=>if j≠0 then .ok (.int (i.fmod j)) else .no
 | _,_=>.no
def zMb:Op2
 | .int i,.int j=>if sR i j=true then .ok (.int (i^j.toNat)) else .no
 | _,_=>.no
def oEq(x y:D):Res D:=if dep x<=50 then .ok (.bl (eqD x y)) else .no
def oNe(x y:D):Res D:=if dep x<=50 then .ok (.bl (!eqD x y)) else .no
def oLt:Op2
 | .int i,.int j=>.ok (.bl (decide (i<j)))
 | _,_=>.no
def oLe:Op2
 | .int i,.int j=>.ok (.bl (decide (i<=j)))
 | _,_=>.no
def oGt:Op2
 | .int i,.int j=>.ok (.bl (decide (j<i)))
 | _,_=>.no
def oGe:Op2
 | .int i,.int j=>.ok (.bl (decide (j<=i)))
 | _,_=>.no
def atD(ds:List D)(i:Int):Option D:=if 0<=i then ds[i.toNat]? else if 0<=(ds.length:Int)+i then ds[((ds.length:Int)+i).toNat]? else none
def ofO{α:Type}:Option α->Res α
 | some a=>.ok a
 | none=>.no
def oIx:Op2
 | .tup ds,.int i=>ofO (atD ds i)
 | .lst ds,.int i=>ofO (atD ds i)
 | _,_=>.no
def oIn:Op2
 | d,.lst ds=>if depS ds<=50 then .ok (.bl (ds.any fun e=>eqD e d)) else .no
 | d,.tup ds=>if depS ds<=50 then .ok (.bl (ds.any fun e=>eqD e d)) else .no
 | _,_=>.no
def zB:D->Res D
 | .int i=>.ok (.int (-i))
 | _=>.no
def zSQ:D->Res D
 | .bl b=>.ok (.bl (!b))
 | _=>.no
def aG(i:Nat)(ρ:Rho):Res D:=match ρ[i]? with
 | some (.val d)=>.ok d
 | _=>.no
def eC(d:D)(_ρ:Rho):Res D:=.ok d
def eOp(o:Op2)(a b:Ev)(ρ:Rho):Res D:=(a ρ).bind fun x=>(b ρ).bind fun y=>o x y
def eUn(o:D->Res D)(a:Ev)(ρ:Rho):Res D:=(a ρ).bind o
def zRe(a b:Ev)(ρ:Rho):Res D:=(a ρ).bind fun x=>match x with
 | .bl c=>if c=true then b ρ else .ok (.bl false)
 | _=>.no
def eOr(a b:Ev)(ρ:Rho):Res D:=(a ρ).bind fun x=>match x with
 | .bl c=>if c=true then .ok (.bl true) else b ρ
 | _=>.no
def eIf(t:Tv)(a b:Ev)(ρ:Rho):Res D:=(t ρ).bind fun c=>if c=true then a ρ else b ρ
def aNil(_ρ:Rho):Res (List D):=.ok []
def aD(e:Ev)(r:Fv)(ρ:Rho):Res (List D):=(e ρ).bind fun d=>(r ρ).bind fun ds=>.ok (d::ds)
def uK(a:Fv)(ρ:Rho):Res D:=(a ρ).bind fun ds=>if ds.length<=16777216 then .ok (.tup ds) else .no
def aP(m:Mir)(a:Fv)(ρ:Rho):Res D:=(a ρ).bind fun ds=>(m ds).bind fun r=>.ok r.d
def kU:List D->Res D
 | [.lst ds]=>.ok (.int ds.length)
 | [.tup ds]=>.ok (.int ds.length)
 | _=>.no
def zMo:List D->Res D
 | [.int i]=>.ok (.int (if i<0 then -i else i))
 | _=>.no
def zTk:List D->Res D
 | [.int i,.int j]=>.ok (.int (if j > i then j else i))
 | _=>.no
def zSK:List D->Res D
 | [.int i,.int j]=>.ok (.int (if j<i then j else i))
 | _=>.no
def zKV:List D->Res D
 | [.lst ds]=>.ok (.tup ds)
 | [.tup ds]=>.ok (.tup ds)
 | _=>.no
def zPS:List D->Res D
 | [.int i]=>.ok (.int i)
 | [.bl b]=>.ok (.int (if b then 1 else 0))
 | _=>.no
def eB(b:List D->Res D)(a:Fv)(ρ:Rho):Res D:=(a ρ).bind b
def tyN:D->String
 | .non => "NoneType" | .bl _ => "bool" | .int _ => "int" | .str _ => "str" | .tup _ => "tuple" | .lst _ => "list"
def isT(T:String)(d:D):Bool:=tyN d==T || (T == "int" && tyN d == "bool")
def zMm(T:String)(a:Ev)(ρ:Rho):Res D:=(a ρ).bind fun d=>.ok (.bl (isT T d))
def isNon:D->Bool
 | .non=>true
 | _=>false
def Sl.frz:Sl->Sl
 | .own ds=>.val (.lst ds)
 | s=>s
def zPP(e:Ev)(ρ:Rho):Res D:=(e (ρ.map Sl.frz)).bind fun d=>if noL d=true then .ok d else .no
def mK(a:Fv)(ρ:Rho):Res (List D):=(a ρ).bind fun ds=>if ds.length<=16777216 then .ok ds else .no
def dH(m:Mir)(a:Fv)(ρ:Rho):Res (List D):=(a ρ).bind fun ds=>(m ds).bind fun r=>match r with
 | .f ds=>.ok ds
 | .v _=>.no
def zNB(a:Fv)(ρ:Rho):Res (List D):=(a ρ).bind fun ds=>match ds with
 | [.lst ds]=>.ok ds
 | [.tup ds]=>.ok ds
 | _=>.no
def zMM(a b:Ev)(ρ:Rho):Res (List D):=(a ρ).bind fun x=>(b ρ).bind fun y=>match x,y with
 | .lst ds,.lst es=>if ds.length+es.length<=16777216 then .ok (ds++es) else .no
 | _,_=>.no
def eF(f:Fv)(ρ:Rho):Res D:=(f ρ).bind fun ds=>.ok (.lst ds)
def zOu(f:Fv)(ρ:Rho):Res (List D):=(f (ρ.map Sl.frz)).bind fun ds=>if noLs ds=true then .ok ds else .no
def cut(n:Nat)(i:Option Int)(d:Nat):Nat:=match i with
 | none=>d
 | some i=>if 0<=i then min i.toNat n else ((n:Int)+i).toNat
def gA(ds:List D)(lo hi:Option Int):List D:=(ds.drop (cut ds.length lo 0)).take (cut ds.length hi ds.length-cut ds.length lo 0)
abbrev Ov:=Rho->Res (Option Int)
def oN(_ρ:Rho):Res (Option Int):=.ok none
def oS(e:Ev)(ρ:Rho):Res (Option Int):=(e ρ).bind fun d=>match d with
 | .int i=>.ok (some i)
 | _=>.no
def fSl(a:Ev)(lo hi:Ov)(ρ:Rho):Res (List D):=(a ρ).bind fun x=>(lo ρ).bind fun l=>(hi ρ).bind fun h=>match x with
 | .lst ds=>.ok (gA ds l h)
 | _=>.no
def zTh(a:Ev)(lo hi:Ov)(ρ:Rho):Res D:=(a ρ).bind fun x=>(lo ρ).bind fun l=>(hi ρ).bind fun h=>match x with
 | .tup ds=>if (gA ds l h).length<ds.length then .ok (.tup (gA ds l h)) else .no
 | _=>.no
def dD(e:Ev)(ρ:Rho):Res Bool:=(e ρ).bind fun d=>match d with
 | .bl b=>.ok b
 | _=>.no
def tFrzB(t:Tv)(ρ:Rho):Res Bool:=t (ρ.map Sl.frz)
def qU(t:Tv)(ρ:Rho):Res Bool:=(t ρ).bind fun b=>.ok (!b)
def zAf(t u:Tv)(ρ:Rho):Res Bool:=(t ρ).bind fun b=>if b=true then u ρ else .ok false
def zGi(t u:Tv)(ρ:Rho):Res Bool:=(t ρ).bind fun b=>if b=true then .ok true else u ρ
def sNext(ρ:Rho):Res Fl:=.ok (.nx ρ)
def aX(a b:Sv)(ρ:Rho):Res Fl:=(a ρ).bind fun f=>match f with
 | .nx ρ'=>b ρ'
 | f=>.ok f
def sIf(t:Tv)(a b:Sv)(ρ:Rho):Res Fl:=(t ρ).bind fun c=>if c=true then a ρ else b ρ
def cW(i:Nat)(e:Ev)(ρ:Rho):Res Fl:=(e ρ).bind fun d=>.ok (.nx (ρ.set i (.val d)))
def zBc(i:Nat)(f:Fv)(ρ:Rho):Res Fl:=(f ρ).bind fun ds=>.ok (.nx (ρ.set i (.own ds)))
def tX(e:Ev)(ρ:Rho):Res Fl:=(e ρ).bind fun _=>.ok (.nx ρ)
def fR(e:Ev)(ρ:Rho):Res Fl:=(e (ρ.map Sl.frz)).bind fun d=>.ok (.ret (.v d))
def iF(f:Fv)(ρ:Rho):Res Fl:=(f (ρ.map Sl.frz)).bind fun ds=>.ok (.ret (.f ds))
def fU(i:Nat)(ρ:Rho):Res Fl:=match ρ[i]? with
 | some (.own ds)=>.ok (.ret (.f ds))
 | _=>.no
def sRetN(_ρ:Rho):Res Fl:=.ok (.ret (.v .non))
def jV(c:Str)(a:Fv)(ρ:Rho):Res Fl:=(a ρ).bind fun ds=>if ds.length<=16777216 then .err c else .no
def sNo(_ρ:Rho):Res Fl:=.no
def zFl(i:Nat)(e:Ev)(ρ:Rho):Res Fl:=match ρ[i]? with
 | some (.own ds)=>(e ρ).bind fun d=>if ds.length<16777216 then .ok (.nx (ρ.set i (.own (ds++[d])))) else .no
 | _=>.no
def zKN(i:Nat)(e:Fv)(ρ:Rho):Res Fl:=match ρ[i]? with
 | some (.own ds)=>(e ρ).bind fun es=>if ds.length+es.length<=16777216 then .ok (.nx (ρ.set i (.own (ds++es)))) else .no
 | _=>.no
def zRg(i:Nat)(k e:Ev)(ρ:Rho):Res Fl:=(e ρ).bind fun d=>match ρ[i]? with
 | some (.own ds)=>(k ρ).bind fun j=>match j with
  | .int j=>if 0<=j/\j<ds.length then .ok (.nx (ρ.set i (.own (ds.set j.toNat d)))) else if -(ds.length:Int)<=j/\j<0 then .ok (.nx (ρ.set i (.own (ds.set (j+ds.length).toNat d)))) else .no
  | _=>.no
 | _=>.no
def zPh(i:Nat)(ρ:Rho):Res Fl:=match ρ[i]? with
 | some (.own ds)=>if ds.length=0 then .no else .ok (.nx (ρ.set i (.own ds.dropLast)))
 | _=>.no
def zKm(i:Nat)(o:Op2)(e:Ev)(ρ:Rho):Res Fl:=match ρ[i]? with
 | some (.val x)=>(e ρ).bind fun y=>(o x y).bind fun d=>.ok (.nx (ρ.set i (.val d)))
 | _=>.no
def sFrz(s:Sv)(ρ:Rho):Res Fl:=s (ρ.map Sl.frz)
def frzAt(i:Nat)(ρ:Rho):Rho:=match ρ[i]? with
 | some (.own ds)=>ρ.set i (.val (.lst ds))
 | _=>ρ
def sFrzAt(i:Nat)(s:Sv)(ρ:Rho):Res Fl:=s (frzAt i ρ)
def noErr{α:Type}:Res α->Res α
 | .err _=>.no
 | r=>r
abbrev Gv:=D->Rho->Res Rho
def gName(i:Nat)(d:D)(ρ:Rho):Res Rho:=.ok (ρ.set i (.val d))
def zIY(gs:List D->Rho->Res Rho)(d:D)(ρ:Rho):Res Rho:=match d with
 | .tup ds=>gs ds ρ
 | _=>.no
def zHv(ds:List D)(ρ:Rho):Res Rho:=match ds with
 | []=>.ok ρ
 | _=>.no
def oH(g:Gv)(r:List D->Rho->Res Rho)(ds:List D)(ρ:Rho):Res Rho:=match ds with
 | d::ds=>(g d ρ).bind fun ρ'=>r ds ρ'
 | []=>.no
def zSX(g:Gv)(f:Ev)(ρ:Rho):Res Fl:=(f ρ).bind fun d=>(g d ρ).bind fun ρ'=>.ok (.nx ρ')
def fS(g:Gv)(b:Sv):List D->Rho->Res Fl
 | [],ρ=>.ok (.nx ρ)
 | d::ds,ρ=>(g d ρ).bind fun ρ1=>(b ρ1).bind fun f=>match f with
  | .nx ρ2=>fS g b ds ρ2
  | .ctn ρ2=>fS g b ds ρ2
  | .brk ρ2=>.ok (.nx ρ2)
  | .ret r=>.ok (.ret r)
def wF(it:Fv)(g:Gv)(b:Sv)(ρ:Rho):Res Fl:=(it ρ).bind fun ds=>fS g b ds ρ
def qK(e:Ev)(ρ:Rho):Res (List D):=(e ρ).bind fun d=>match d with
 | .lst ds=>.ok ds
 | .tup ds=>.ok ds
 | _=>.no
def rng(lo:Int)(n:Nat)(c:Int):List D:=(List.range n).map fun(i:Nat)=>D.int (lo+(i:Int)*c)
def zQ(a:Fv)(ρ:Rho):Res (List D):=(a ρ).bind fun ds=>match ds with
 | [.int j]=>if -(2^62)<=j/\j<2^62 then .ok (rng 0 j.toNat 1) else .no
 | _=>.no
def zEx(a:Fv)(ρ:Rho):Res (List D):=(a ρ).bind fun ds=>match ds with
 | [.int i,.int j]=>if -(2^62)<=i/\i<2^62/\-(2^62)<=j/\j<2^62 then .ok (rng i (j-i).toNat 1) else .no
 | _=>.no
def wh(t:Tv)(b:Sv):Nat->Rho->Res Fl
 | 0,_=>.no
 | n+1,ρ=>(t ρ).bind fun c=>if c=true then (b ρ).bind fun f=>match f with
   | .nx ρ2=>wh t b n ρ2
   | .ctn ρ2=>wh t b n ρ2
   | .brk ρ2=>.ok (.nx ρ2)
   | .ret r=>.ok (.ret r)
  else .ok (.nx ρ)
open Classical in
def eU(t:Tv)(b:Sv)(ρ:Rho):Res Fl:=if h:∃ n,wh t b n ρ≠.no then wh t b h.choose ρ else .no
theorem zAo{t:Tv}{b:Sv}:∀ {n:Nat} {ρ:Rho} {k:Nat},wh t b n ρ≠.no->n<=k->wh t b k ρ=wh t b n ρ
 | 0,ρ,k,h,_=>absurd rfl h
 | n+1,ρ,0,h,l=>absurd l (by omega)
 | n+1,ρ,k+1,h,l=>by
  rw[wh,wh];rw[wh] at h
  cases ht:t ρ with
  | no=>rfl
  | err c=>rfl
  | ok c=>
   rw[ht] at h;simp only[Res.bind] at h ⊢
   cases c with
   | false=>rfl
   | true=>
    simp only[if_true] at h ⊢
    cases hb:b ρ with
    | no=>rfl
    | err c=>rfl
    | ok f=>
     rw[hb] at h
     cases f with
     | nx ρ2=>exact zAo h (by omega)
     | ctn ρ2=>exact zAo h (by omega)
     | brk ρ2=>rfl
     | ret r=>rfl
theorem iK{t:Tv}{b:Sv}{n:Nat}{ρ:Rho}(h:wh t b n ρ≠.no):eU t b ρ=wh t b n ρ:=by
 have hx:∃ n,wh t b n ρ≠.no:=⟨n,h⟩;unfold eU;rw[dif_pos hx];rcases Xd n hx.choose with l | l
 ·exact zAo h l
 ·exact(zAo hx.choose_spec l).symm
theorem pO{t:Tv}{b:Sv}{ρ:Rho}(h:eU t b ρ≠.no):∃ n,eU t b ρ=wh t b n ρ:=by
 unfold eU at h ⊢
 split
 ·exact⟨_,rfl⟩
 ·rename_i hx;rw[dif_neg hx] at h;exact absurd rfl h
theorem zCT{t:Tv}{b:Sv}{ρ:Rho}:eU t b ρ=((t ρ).bind fun c=>if c=true then (b ρ).bind fun f=>match f with
   | .nx ρ2=>eU t b ρ2
   | .ctn ρ2=>eU t b ρ2
   | .brk ρ2=>.ok (.nx ρ2)
   | .ret r=>.ok (.ret r)
  else .ok (.nx ρ)):=by
 have key:∀ n,wh t b (n+1) ρ≠.no->wh t b (n+1) ρ=((t ρ).bind fun c=>if c=true then (b ρ).bind fun f=>match f with
   | .nx ρ2=>eU t b ρ2
   | .ctn ρ2=>eU t b ρ2
   | .brk ρ2=>.ok (.nx ρ2)
   | .ret r=>.ok (.ret r)
  else .ok (.nx ρ)):=by
  intro n h;rw[wh] at h ⊢
  cases ht:t ρ with
  | no=>rfl
  | err c=>rfl
  | ok c=>
   rw[ht] at h;simp only[Res.bind] at h ⊢
   cases c with
   | false=>rfl
   | true=>
    simp only[if_true] at h ⊢
    cases hb:b ρ with
    | no=>rfl
    | err c=>rfl
    | ok f=>
     rw[hb] at h
     cases f with
     | nx ρ2=>exact(iK h).symm
     | ctn ρ2=>exact(iK h).symm
     | brk ρ2=>rfl
     | ret r=>rfl
 by_cases h:eU t b ρ=.no
 ·rw[h]
  cases ht:t ρ with
  | no=>rfl
  | err c=>
   exfalso
   have q:wh t b 1 ρ=.err c:=by rw[wh,ht];rfl
   have:=iK (t:=t) (b:=b) (ρ:=ρ) (n:=1) (by rw[q];exact fun z=>by cases z)
   rw[h,q] at this;cases this
  | ok c=>
   simp only[Res.bind]
   cases c with
   | false=>
    exfalso
    have q:wh t b 1 ρ=.ok (.nx ρ):=by rw[wh,ht];rfl
    have:=iK (t:=t) (b:=b) (ρ:=ρ) (n:=1) (by rw[q];exact fun z=>by cases z)
    rw[h,q] at this;cases this
   | true=>
    simp only[if_true]
    cases hb:b ρ with
    | no=>rfl
    | err c=>
     exfalso
     have q:wh t b 1 ρ=.err c:=by rw[wh,ht];simp[Res.bind,hb]
     have:=iK (t:=t) (b:=b) (ρ:=ρ) (n:=1) (by rw[q];exact fun z=>by cases z)
     rw[h,q] at this;cases this
    | ok f=>
     have again:∀ ρ2,(f=.nx ρ2∨f=.ctn ρ2)->eU t b ρ2=.no:=by
      intro ρ2 hf;by_cases h2:eU t b ρ2=.no
      ·exact h2
      ·exfalso
       obtain⟨n,e⟩:=pO h2
       have q:wh t b (n+1) ρ=wh t b n ρ2:=by
        rw[wh,ht];simp only[Res.bind,if_true,hb];rcases hf with rfl | rfl<;>rfl
       have h3:wh t b (n+1) ρ≠.no:=by rw[q,<-e];exact h2
       have:=iK h3
       rw[h] at this;exact h3 this.symm
     cases f with
     | nx ρ2=>exact(again ρ2 (.inl rfl)).symm
     | ctn ρ2=>exact(again ρ2 (.inr rfl)).symm
     | brk ρ2=>
      exfalso
      have q:wh t b 1 ρ=.ok (.nx ρ2):=by rw[wh,ht];simp[Res.bind,hb]
      have:=iK (t:=t) (b:=b) (ρ:=ρ) (n:=1) (by rw[q];exact fun z=>by cases z)
      rw[h,q] at this;cases this
     | ret r=>
      exfalso
      have q:wh t b 1 ρ=.ok (.ret r):=by rw[wh,ht];simp[Res.bind,hb]
      have:=iK (t:=t) (b:=b) (ρ:=ρ) (n:=1) (by rw[q];exact fun z=>by cases z)
      rw[h,q] at this;cases this
 ·obtain⟨n,e⟩:=pO h
  cases n with
  | zero=>rw[e] at h;exact absurd rfl h
  | succ n=>rw[e];exact key n (by rw[<-e];exact h)
def zOp(f:Fv)(g:Ev)(ρ:Rho):Res (List D):=(f ρ).bind fun ds=>(g ρ).bind fun d=>match d with
 | .int k=>if 0<=k/\k<2^62/\ds.length*k.toNat<=16777216 then .ok (List.replicate k.toNat ds).flatten else .no
 | _=>.no
def jK(_ρ:Rho):Res Bool:=.ok true
def iL(t:Tv)(f:Ev)(ρ:Rho):List D->Res (List D)
 | []=>.ok []
 | d::ds=>(noErr (t (ρ++[.val d]))).bind fun c=>if c=true then (noErr (f (ρ++[.val d]))).bind fun e=>(iL t f ρ ds).bind fun es=>.ok (e::es) else iL t f ρ ds
def jR(it:Fv)(t:Tv)(f:Ev)(ρ:Rho):Res (List D):=(it ρ).bind fun ds=>if ds.length<=16777215 then iL t f ρ ds else .no
def start(n:Nat)(ds:List D):Rho:=ds.map Sl.val++List.replicate (n-ds.length) .un
def fin:Fl->Res Rt
 | .nx _=>.ok (.v .non)
 | .ret r=>.ok r
 | .brk _=>.no
 | .ctn _=>.no
def fn(p n:Nat)(b:Sv)(ds:List D):Res Rt:=if ds.length=p then (b (start n ds)).bind fin else .no
def zKg:D->Option (List D)
 | .lst ds=>some ds
 | .tup ds=>some ds
 | _=>none
def gT:List D->List D->List D
 | a::r,b::q=>.tup [a,b]::gT r q
 | _,_=>[]
def zLt(a:Fv)(ρ:Rho):Res (List D):=(a ρ).bind fun ds=>match ds with
 | [x,y]=>match zKg x,zKg y with
  | some xs,some ys=>.ok (gT xs ys)
  | _,_=>.no
 | _=>.no
def gG(f:Ev)(ρ:Rho):List D->Res (List D)
 | []=>.ok []
 | .tup [a,b]::ds=>(noErr (f (ρ++[.val a,.val b]))).bind fun e=>(gG f ρ ds).bind fun es=>.ok (e::es)
 | _::_=>.no
def uM(it:Fv)(f:Ev)(ρ:Rho):Res (List D):=(it ρ).bind fun ds=>if ds.length<=16777215 then gG f ρ ds else .no
def zSU:D->Option Str
 | .str x=>some x
 | .int i=>if i.natAbs.log2<1920 then some (toString i) else none
 | _=>none
def zSW:Str->List D->Option Str
 | a,[]=>some a
 | a,d::r=>match zSU d with
  | some x=>if x.length<=sizeLine/\(a++x).length<=sizeLine then zSW (a++x) r else none
  | none=>none
def oJ:List D->Option (List Int)
 | []=>some []
 | .int i::ds=>match oJ ds with
  | some ns=>some (i::ns)
  | none=>none
 | _::_=>none
def zCE:List D->Res D
 | [.lst ds]=>(match oJ ds with
  | some ns=>.ok (.int ns.sum)
  | none=>.no)
 | [.tup ds]=>(match oJ ds with
  | some ns=>.ok (.int ns.sum)
  | none=>.no)
 | _=>.no
def chO:Option Nat->Res D
 | some c=>.ok (.str ⟨#[c]⟩)
 | none=>.no
def zLE:List D->Option (List Bool)
 | []=>some []
 | .bl b::r=>(zLE r).map (b::·)
 | _=>none
def zTj:List D->Res D
 | [.lst ds]=>(match zLE ds with | some bs=>.ok (.bl (bs.all id)) | none=>.no)
 | _=>.no
def slS(l u:Option Int):D->Res D
 | .str x=>if x.length<=sizeLine then .ok (.str (Txt.slice x l u)) else .no
 | _=>.no
def sO(T:List (Str×Str)):D->Res D
 | .str x=>.ok (.bl (!(T.lookup x).isSome))
 | _=>.no
def zOO:Option Str->Res D
 | some y=>.ok (.str y)
 | none=>.no
def vD(T:List (Str×Str)):D->Res D
 | .str x=>zOO (T.lookup x)
 | _=>.no
def zBx:Int->List Int->Int
 | a,[]=>a
 | a,b::r=>zBx (if b > a then b else a) r
def zDa:List D->Res D
 | [.lst ds]=>(match oJ ds with | some (a::r)=>.ok (.int (zBx a r)) | _=>.no)
 | _=>.no
end L3
namespace L3
open PySem
def hZ(kz:List Int)(π:List Nat):Prop:=π.Perm (List.range kz.length)/\π.Pairwise (fun i j=>kz.getD i 0<=kz.getD j 0)
def zKf(b:Int):D->Res Int
 | .tup [.int t,.int d]=>if mH d && kI t (b.fdiv d) then .ok (t*b.fdiv d) else .no
 | _=>.no
def oY(b:Int):List D->Res (List Int)
 | []=>.ok []
 | d::r=>(zKf b d).bind fun k=>(oY b r).bind fun ks=>.ok (k::ks)
def kO(π:List Nat):List D:=π.map fun i:Nat=>D.int (i:Int)
theorem zNU{b k:Int}{d:D}(h:zKf b d=.ok k):∃ t c,d=.tup [.int t,.int c]/\mH c=true/\kI t (b.fdiv c)=true/\k=t*b.fdiv c:=by
 unfold zKf at h;split at h
 ·rename_i t c
  split at h
  ·rename_i hc
   rw[Va] at hc;cases h;exact⟨t,c,rfl,hc.1,hc.2,rfl⟩
  ·cases h
 ·cases h
theorem zAZ{b:Int}:∀ {rows:List D} {kz:List Int},oY b rows=.ok kz->kz.length=rows.length/\∀(j:Nat)(k:Int),kz[j]?=some k->∃ d,rows[j]?=some d/\zKf b d=.ok k
 | [],kz,h=>by cases h;exact⟨rfl,fun j k z=>by simp at z⟩
 | d::r,kz,h=>by
  unfold oY at h
  cases e:zKf b d with
  | no=>rw[e] at h;cases h
  | err c=>rw[e] at h;cases h
  | ok k0=>
   rw[e] at h;have h':(oY b r).bind (fun ks=>Res.ok (k0::ks))=.ok kz:=h
   cases e2:oY b r with
   | no=>rw[e2] at h';cases h'
   | err c=>rw[e2] at h';cases h'
   | ok ks=>
    rw[e2] at h';cases h'
    obtain⟨h1,h2⟩:=zAZ e2;refine⟨by rw[Qn,Qn,h1],fun j k z=>?_⟩
    cases j with
    | zero=>simp at z;subst z;exact⟨d,rfl,e⟩
    | succ j=>exact h2 j k (by simpa using z)
def zER(ρ:Rho):Res (List Int):=match ρ[0]?,ρ[1]? with
 | some (Sl.val (.lst rows)),some (Sl.val (.int b))=>if rows.length<64 then oY b rows else .no
 | _,_=>.no
def zBE(sa sb:Sv)(ds:List D):Res (List Int):=if ds.length=1 then (match sa (L3.start 3 ds) with
 | .ok (.nx ρ)=>(match sb ρ with
  | .ok (.nx ρ')=>zER ρ'
  | _=>.no)
 | _=>.no) else .no
theorem zFo{b:Int}:∀ {rows:List D} {c:Str},oY b rows≠.err c
 | [],c,h=>by cases h
 | d::r,c,h=>by
  unfold oY at h
  have k0:∀ c,zKf b d≠.err c:=fun c z=>by
   unfold zKf at z;split at z
   ·split at z<;>cases z
   ·cases z
  cases e:zKf b d with
  | no=>rw[e] at h;cases h
  | err c'=>exact k0 _ e
  | ok k=>
   rw[e] at h;have h':(oY b r).bind (fun ks=>Res.ok (k::ks))=.err c:=h
   cases e2:oY b r with
   | no=>rw[e2] at h';cases h'
   | err c'=>exact zFo e2
   | ok ks=>rw[e2] at h';cases h'
theorem zPb{sa sb:Sv}(ds:List D)(c:Str):zBE sa sb ds≠.err c:=fun h=>by
 unfold zBE zER at h;split at h
 ·split at h
  ·split at h
   ·split at h
    ·split at h
     ·exact zFo h
     ·cases h
    ·cases h
   ·cases h
  ·cases h
 ·cases h
theorem zLC{sa sb:Sv}(ds:List D)(h:zBE sa sb ds≠.no):ds.length=1:=by
 unfold zBE at h;split at h
 ·assumption
 ·exact absurd rfl h
open Classical in
def oX(kz:List Int)(F:List Nat->Res Fl):Res Fl:=if h:∃ x,∀ π,hZ kz π->F π=x then h.choose else .no
theorem zGW{kz:List Int}{F:List Nat->Res Fl}{π:List Nat}(h:oX kz F≠.no)(hπ:hZ kz π):F π=oX kz F:=by
 unfold oX at h ⊢
 split at h
 ·rename_i z;rw[dif_pos z];exact z.choose_spec π hπ
 ·exact absurd rfl h
theorem zGP{kz:List Int}{F:List Nat->Res Fl}{x:Res Fl}{π:List Nat}(hπ:hZ kz π)(h:∀ π,hZ kz π->F π=x):oX kz F=x:=by
 have z:∃ x,∀ π,hZ kz π->F π=x:=⟨x,h⟩;unfold oX;rw[dif_pos z,<-z.choose_spec π hπ];exact h π hπ
def zIE(fs:Fv)(kf:List D->Res (List Int))(g:Gv)(b r:Sv):Sv:=fun ρ=>((fs ρ).bind kf).bind fun kz=>oX kz fun π=>aX (fun ρ=>fS g b (kO π) ρ) r ρ
abbrev Tri:=D×List D×List D
def zKo(e:Ev):Fv:=fun ρ=>(e ρ).bind fun d=>match d with
 | .lst ds=>.ok ds.reverse
 | _=>.no
def zSv:D->Res (List D)
 | .lst ds=>.ok ds.reverse
 | _=>.no
theorem revL_l{ds:List D}:zSv (.lst ds)=.ok ds.reverse:=rfl
theorem iRevL_at{e:Ev}{ρ:Rho}:zKo e ρ=(e ρ).bind zSv:=by
 unfold zKo;congr
def zKk(t:Tv)(j k:Nat)(ρ:Rho):List D->Bool
 | []=>true
 | d::ds=>match d with
  | .tup [a,b]=>(match t ((ρ.set j (.val a)).set k (.val b)) with
   | .ok false=>zKk t j k ρ ds
   | _=>false)
  | _=>false
def zIx(j k:Nat)(it:Fv)(t:Tv)(ρ:Rho):Res Fl:=match it (ρ.map Sl.frz) with
 | .ok ds=>if zKk t j k (ρ.map Sl.frz) ds=true then .ok (.nx ((ρ.set j .un).set k .un)) else .no
 | _=>.no
theorem zJV{t:Tv}{j k:Nat}{ρ:Rho}:∀ {ds:List D} {d:D},zKk t j k ρ ds=true->d∈ds->∃ a b,d=.tup [a,b]/\t ((ρ.set j (.val a)).set k (.val b))=.ok false
 | e::ds,d,h,hd=>by
  unfold zKk at h;split at h
  ·rename_i a b
   split at h
   ·rename_i z
    rcases Qd.mp hd with rfl | hd
    ·exact⟨a,b,rfl,z⟩
    ·exact zJV h hd
   ·cases h
  ·cases h
theorem zJz{t:Tv}{j k:Nat}{ρ:Rho}:∀ {ds:List D},(∀ d∈ds,∃ a b,d=.tup [a,b]/\t ((ρ.set j (.val a)).set k (.val b))=.ok false)->zKk t j k ρ ds=true
 | [],_=>rfl
 | d::ds,h=>by
  obtain⟨a,b,rfl,e⟩:=h d Qb;unfold zKk;simp only[e];exact zJz fun e he=>h e (Qc _ he)
theorem zKS{j k:Nat}{it:Fv}{t:Tv}{ρ:Rho}{ds:List D}(h1:it (ρ.map Sl.frz)=.ok ds)(h2:∀ d∈ds,∃ a b,d=.tup [a,b]/\t (((ρ.map Sl.frz).set j (.val a)).set k (.val b))=.ok false):zIx j k it t ρ=.ok (.nx ((ρ.set j .un).set k .un)):=by
 unfold zIx;rw[h1];show(if zKk t j k (ρ.map Sl.frz) ds=true then _ else _)=_
 rw[if_pos (zJz h2)]
end L3
namespace Fq
theorem zFM{a b:Int}(ha:0<=a)(hb:0<b):Int.gcd b (a % b)=Int.gcd a b:=by
 obtain⟨m,rfl⟩:=XG ha;obtain⟨n,rfl⟩:=XG (VL hb);show Nat.gcd n (m % n)=Nat.gcd m n
 rw[Nat.gcd_comm n (m % n),Nat.gcd_comm m n,Nat.gcd_rec n m]
def dv(t b:Int):Int:=if b<0 then -(Int.gcd t b:Int) else (Int.gcd t b:Int)
theorem zML{t b:Int}(hb:b≠0):0<(Int.gcd t b:Int):=by
 have h:Int.gcd t b≠0:=fun h=>hb (Int.gcd_eq_zero_iff.mp h).2
 omega
theorem zQn{t b:Int}(hb:b≠0):dv t b≠0:=by
 have:=zML (t:=t) hb
 unfold dv;split<;>omega
theorem zAO(t b:Int):dv t b ∣ t:=by
 unfold dv;split
 ·exact Int.neg_dvd.mpr (XH ..)
 ·exact XH ..
theorem zFm(t b:Int):dv t b ∣ b:=by
 unfold dv;split
 ·exact Int.neg_dvd.mpr (XI ..)
 ·exact XI ..
theorem pE{t d:Int}(h:d ∣ t):t.fdiv d=t / d:=by
 rw[Int.fdiv_eq_ediv];simp[h]
theorem yU{t b:Int}(hb:b≠0):t.fdiv (dv t b)=(Rat.divInt t b).num:=by
 rw[pE (zAO t b),Rat.num_divInt,Int.gcd_comm b t];unfold dv;rcases Int.lt_trichotomy b 0 with h | h | h
 ·rw[if_pos h,Int.sign_eq_neg_one_of_neg h,Int.ediv_neg]
  have:(-1:Int)*t=-t:=by omega
  rw[this,Yp (XH ..)]
 ·exact absurd h hb
 ·rw[if_neg (by omega),Yq h,XJ]
theorem yT{t b:Int}(hb:b≠0):b.fdiv (dv t b)=((Rat.divInt t b).den:Int):=by
 rw[pE (zFm t b),Rat.den_divInt,if_neg hb,Int.gcd_comm b t];unfold dv;rcases Int.lt_trichotomy b 0 with h | h | h
 ·rw[if_pos h,Int.ediv_neg,Int.natCast_ediv]
  have e:((b.natAbs:Nat):Int)=-b:=by omega
  rw[e,Yp (XI ..)]
 ·exact absurd h hb
 ·rw[if_neg (by omega),Int.natCast_ediv]
  have e:((b.natAbs:Nat):Int)=b:=by omega
  rw[e]
theorem eM(q:Rat):(q.den:Int)≠0:=by have:=q.den_nz;omega
theorem gE(q:Rat):(0:Int)<(q.den:Int):=by have:=q.den_nz;omega
theorem zLH(p q:Rat):Rat.divInt (p.num*q.den+q.num*p.den) (p.den*q.den)=p+q:=by
 rw[<-Rat.divInt_add_divInt _ _ (eM p) (eM q),Vb,Vb]
theorem zHN(p q:Rat):Rat.divInt (p.num*q.den-q.num*p.den) (p.den*q.den)=p-q:=by
 rw[<-Rat.divInt_sub_divInt _ _ (eM p) (eM q),Vb,Vb]
theorem zJD(p q:Rat):Rat.divInt (p.num*q.num) (p.den*q.den)=p*q:=by
 rw[<-XL,Vb,Vb]
theorem zJB(p q:Rat):Rat.divInt (p.num*q.den) (p.den*q.num)=p / q:=by
 rw[<-XL,Vb,QL,Rat.inv_def]
theorem zHk{q:Rat}:q.num≠0 ↔ q≠0:=by
 constructor
 ·intro h e;exact h (by rw[e];rfl)
 ·intro h e;exact h (Rat.num_eq_zero.mp e)
def Sz(n:Nat)(q:Rat):Prop:=q.num.natAbs<2^n/\q.den<2^n
theorem Sz.mono{m n:Nat}{q:Rat}(h:Sz m q)(l:m<=n):Sz n q:=
 ⟨Qp h.1 (Vc (by decide) l),Qp h.2 (Vc (by decide) l)⟩
theorem zPE{t b:Int}(hb:b≠0):(Rat.divInt t b).num.natAbs<=t.natAbs:=by
 rw[<-yU hb,pE (zAO t b),Int.natAbs_ediv_of_dvd (zAO t b)];exact Nat.div_le_self ..
theorem zFh{t b:Int}(hb:b≠0):(Rat.divInt t b).den<=b.natAbs:=by
 rw[Rat.den_divInt,if_neg hb];exact Nat.div_le_self ..
theorem Sz.of{n:Nat}{t b:Int}(hb:b≠0)(ht:t.natAbs<2^n)(h:b.natAbs<2^n):Sz n (Rat.divInt t b):=
 ⟨Vq (zPE hb) ht,Vq (zFh hb) h⟩
theorem gF{a b:Int}{m n:Nat}(ha:a.natAbs<2^m)(hb:b.natAbs<2^n):(a*b).natAbs<2^(m+n):=by
 rw[Int.natAbs_mul,Nat.pow_add];exact Nat.mul_lt_mul'' ha hb
theorem zOX{a b:Int}{m:Nat}(ha:a.natAbs<2^m)(hb:b.natAbs<2^m):(a-b).natAbs<2^(m+1):=by
 rw[Nat.pow_succ];omega
theorem Sz.d{n:Nat}{q:Rat}(h:Sz n q):((q.den:Int)).natAbs<2^n:=h.2
theorem Sz.sub{m n:Nat}{p q:Rat}(hp:Sz m p)(hq:Sz n q):Sz (m+n+1) (p-q):=by
 rw[<-zHN];refine Sz.of (Vi (eM p) (eM q)) (zOX (gF hp.1 hq.d) ?_) ?_
 ·rw[Nat.add_comm m n];exact gF hq.1 hp.d
 ·exact Qp (gF hp.d hq.d) (Vc (by decide) (by omega))
theorem Sz.mul{m n:Nat}{p q:Rat}(hp:Sz m p)(hq:Sz n q):Sz (m+n) (p*q):=by
 rw[<-zJD];exact Sz.of (Vi (eM p) (eM q)) (gF hp.1 hq.1) (gF hp.d hq.d)
theorem Sz.div{m n:Nat}{p q:Rat}(hp:Sz m p)(hq:Sz n q)(h:q≠0):Sz (m+n) (p / q):=by
 rw[<-zJB];exact Sz.of (Vi (eM p) (zHk.mpr h)) (gF hp.1 hq.d) (gF hp.d hq.1)
theorem zGb{q:Rat}(h:0<q):0<q.num:=by
 have:=Rat.num_nonneg.mpr (Qf h)
 have h2:q.num≠0:=zHk.mpr (by intro z;rw[z] at h;exact absurd h (by decide))
 omega
theorem zJk{q:Rat}(h:0<q):q⁻¹.num=q.den:=by
 rw[Rat.num_inv,Yq (zGb h),XJ]
theorem zIr{q:Rat}(h:0<q):(q⁻¹.den:Int)=q.num:=by
 have:=zGb h
 rw[Rat.den_inv,if_neg (by omega)];omega
theorem Sz.inv{n:Nat}{q:Rat}(h:Sz n q)(h0:0<q):Sz n q⁻¹:=by
 refine⟨by rw[zJk h0];exact h.2,?_⟩
 have h1:=h.1;have:=zIr h0
 omega
end Fq
namespace Fr
open L3 PySem Fq
theorem zGh{t:Tv}{b:Sv}{ρ:Rho}(P:Rho->Prop)(μ:Rho->Nat)(Q:Res Fl->Prop)(h0:P ρ)
  (step:∀ ρ,P ρ->(t ρ=.ok false/\Q (.ok (.nx ρ)))∨(t ρ=.ok true/\∃ ρ',b ρ=.ok (.nx ρ')/\P ρ'/\μ ρ' < μ ρ)):Q (eU t b ρ):=by
 have main:∀ n ρ,μ ρ<=n->P ρ->Q (eU t b ρ):=by
  intro n
  induction n with
  | zero=>
   intro ρ hn hp;rw[zCT];rcases step ρ hp with⟨h1,h2⟩ | ⟨h1,ρ',h2,h3,h4⟩
   ·rw[h1];exact h2
   ·omega
  | succ n ih=>
   intro ρ hn hp;rw[zCT];rcases step ρ hp with⟨h1,h2⟩ | ⟨h1,ρ',h2,h3,h4⟩
   ·rw[h1];exact h2
   ·rw[h1]
    simp only[Res.bind,if_true,h2];exact ih ρ' (by omega) h3
 exact main _ ρ (Qg _) h0
theorem zFz{i:Int}{m:Nat}(h:i.natAbs<2^m):nb i<=m+1:=zRU (Qp h (Vc (by decide) (by omega))) (by omega)
theorem bQ{i j:Int}{m n:Nat}(hi:i.natAbs<2^m)(hj:j.natAbs<2^n)(h:m+n<=100000000):kI i j=true:=by
 unfold kI;have h1:=zFz hi;have h2:=zFz hj;rw[VM];exact .inr (decide_eq_true (by omega))
theorem zMS{i j:Int}(h1:-(2^64)<j)(h2:j<2^64):kI i j=true:=by
 unfold kI;rw[VM,VM];exact .inl (.inr (by rw[decide_eq_true h1,decide_eq_true h2];rfl))
theorem zOd{i j:Int}(h1:-(2^64)<i)(h2:i<2^64):kI i j=true:=by
 unfold kI;rw[VM,VM];exact .inl (.inl (by rw[decide_eq_true h1,decide_eq_true h2];rfl))
theorem uG{j:Int}{m:Nat}(h0:j≠0)(hj:j.natAbs<2^m)(h:m<=8999):mH j=true:=by
 unfold mH;have h1:=zFz hj;rw[decide_eq_true h0,decide_eq_true (show nb j<=9000 by omega)];rfl
theorem zLq{i j:Int}{m:Nat}(hi:i.natAbs<2^m)(h0:0<=j)(h:((m:Int)+1)*j<=2^27):sR i j=true:=by
 unfold sR;have h1:=zFz hi;rw[decide_eq_true h0,decide_eq_true (show(nb i:Int)*j<=2^27 from Vj (Yr (by omega) h0) h)];rfl
theorem okDiv_lit{j:Int}(h0:0<j)(h:j<1000000000000000000):mH j=true:=uG (m:=64) (by omega) (by omega) (by decide)
theorem okMul_litr{i j:Int}(h1:-1000000000000000000<j)(h2:j<1000000000000000000):kI i j=true:=zMS (by omega) (by omega)
theorem okMul_litl{i j:Int}(h1:-1000000000000000000<i)(h2:i<1000000000000000000):kI i j=true:=zOd (by omega) (by omega)
theorem p10(n:Nat):(0:Int)<10^n:=Xe (by decide)
theorem p10ne(n:Nat):((10:Int)^n=0)=False:=eq_false (by have:=p10 n;omega)
theorem p10pos2(n:Nat):(0:Int)<2*10^n:=by have:=p10 n;omega
theorem p10ne2(n:Nat):((2:Int)*10^n=0)=False:=eq_false (by have:=p10 n;omega)
theorem okp9:sR 10 9=true:=by decide
def dq(q:Rat):D:=.tup [.int q.num,.int (q.den:Int)]
def dp(p:Rat×Rat):D:=.tup [dq p.1,dq p.2]
theorem eq_dq(p q:Rat):eqD (dq p) (dq q)=decide (p=q):=by
 show((p.num==q.num) && (((p.den:Int)==(q.den:Int)) && true))=decide (p=q)
 by_cases h:p=q
 ·subst h;simp
 ·rw[decide_eq_false h]
  by_cases h1:p.num=q.num
  ·have h2:p.den≠q.den:=fun e=>h (Rat.ext h1 e)
   have:((p.den:Int)==(q.den:Int))=false:=by simp;omega
   rw[this];simp
  ·simp[h1]
theorem dep_dq(q:Rat):dep (dq q)=1:=rfl
theorem ix_dq0(q:Rat):oIx (dq q) (.int 0)=.ok (.int q.num):=rfl
theorem ix_dq1(q:Rat):oIx (dq q) (.int 1)=.ok (.int (q.den:Int)):=rfl
theorem ty_dq(q:Rat):tyN (dq q) = "tuple" := rfl
theorem len_dq(q:Rat):kU [dq q]=.ok (.int 2):=rfl
theorem oEq_dq(p q:Rat):oEq (dq p) (dq q)=.ok (.bl (decide (p=q))):=by
 rw[<-eq_dq];rfl
theorem oNe_dq(p q:Rat):oNe (dq p) (dq q)=.ok (.bl (!decide (p=q))):=by
 rw[<-eq_dq];rfl
theorem noL_dq(q:Rat):noL (dq q)=true:=rfl
theorem zPq(p q:Rat×Rat):eqD (dp p) (dp q)=decide (p=q):=by
 show(eqD (dq p.1) (dq q.1) && (eqD (dq p.2) (dq q.2) && true))=decide (p=q)
 rw[eq_dq,eq_dq];obtain⟨a,b⟩:=p;obtain⟨c,d⟩:=q;simp
theorem dp_mk(a b:Rat):(.tup [dq a,dq b]:D)=dp (a,b):=rfl
theorem ix_dp0(p:Rat×Rat):oIx (dp p) (.int 0)=.ok (dq p.1):=rfl
theorem ix_dp1(p:Rat×Rat):oIx (dp p) (.int 1)=.ok (dq p.2):=rfl
theorem ty_dp(p:Rat×Rat):tyN (dp p) = "tuple" := rfl
theorem len_dp(p:Rat×Rat):kU [dp p]=.ok (.int 2):=rfl
theorem dep_dp(p:Rat×Rat):dep (dp p)=2:=rfl
theorem noL_dp(p:Rat×Rat):noL (dp p)=true:=rfl
theorem oEq_dp(p q:Rat×Rat):oEq (dp p) (dp q)=.ok (.bl (decide (p=q))):=by
 rw[<-zPq];rfl
theorem oNe_dp(p q:Rat×Rat):oNe (dp p) (dp q)=.ok (.bl (!decide (p=q))):=by
 rw[<-zPq];rfl
theorem zOU{q:Rat}(h:0<q):(.tup [.int (q.den:Int),.int q.num]:D)=dq q⁻¹:=by
 unfold dq;rw[Fq.zJk h,Fq.zIr h]
theorem fdiv_pos(a:Int){b:Int}(h:0<b):a.fdiv b=a / b:=Ys a (by omega)
theorem fmod_pos(a:Int){b:Int}(h:0<b):a.fmod b=a % b:=Yt a (by omega)
theorem zOj(a:Int){b:Int}(h:0<=b):a.fdiv b=a / b:=Ys a h
theorem zBD(a:Int){b:Int}(h:0<=b):a.fmod b=a % b:=Yt a h
theorem zBz:∀ l:List (Rat×Rat),depS (l.map dp)<=2
 | []=>QZ _
 | q::l=>by rw[Qs,depS];exact Xm.mpr ⟨Qg _,zBz l⟩
theorem zNl(l:List (Rat×Rat)):dep (.tup (l.map dp))<=50:=by rw[dep];have:=zBz l;omega
theorem noLs_dps:∀ l:List (Rat×Rat),noLs (l.map dp)=true
 | []=>rfl
 | q::l=>by rw[Qs,noLs,noL_dp,noLs_dps l];rfl
theorem oE{α:Type}{l:List α}{i:Nat}{a:α}(h:l[i]?=some a):l.take (i+1)=l.take i++[a]:=by rw[XM,h];rfl
theorem zQg{b:Int}(h:0<b):(.tup [.int 1,.int b]:D)=dq (Rat.divInt 1 b):=by
 have hb:b≠0:=by omega
 have e:Fq.dv 1 b=1:=by unfold Fq.dv;rw[if_neg (by omega)];simp
 unfold dq;rw[<-Fq.yU hb,<-Fq.yT hb,e];simp
theorem zQc(k:Int):(.tup [.int k,.int 1]:D)=dq (k:Rat):=rfl
end Fr
namespace L3
open PySem
def zMC(b:Sv):Fl->Res Fl
 | .nx ρ=>b ρ
 | .ret r=>.ok (.ret r)
 | .brk ρ=>.ok (.brk ρ)
 | .ctn ρ=>.ok (.ctn ρ)
theorem sSeq_at{a b:Sv}{ρ:Rho}:aX a b ρ=(a ρ).bind (zMC b):=by
 unfold aX;congr;funext f;cases f<;>rfl
def ifF(a b:Sv)(ρ:Rho):Bool->Res Fl
 | true=>a ρ
 | false=>b ρ
theorem sIf_at{t:Tv}{a b:Sv}{ρ:Rho}:sIf t a b ρ=(t ρ).bind (ifF a b ρ):=by
 unfold sIf;congr;funext c;cases c<;>rfl
def zRX(a b:Ev)(ρ:Rho):Bool->Res D
 | true=>a ρ
 | false=>b ρ
theorem eIf_at{t:Tv}{a b:Ev}{ρ:Rho}:eIf t a b ρ=(t ρ).bind (zRX a b ρ):=by
 unfold eIf;congr;funext c;cases c<;>rfl
def zRV(b:Ev)(ρ:Rho):D->Res D
 | .bl true=>b ρ
 | .bl false=>.ok (.bl false)
 | _=>.no
theorem eAnd_at{a b:Ev}{ρ:Rho}:zRe a b ρ=(a ρ).bind (zRV b ρ):=by
 unfold zRe;congr;funext c;cases c<;>try rfl
 rename_i c;cases c<;>rfl
def orF(b:Ev)(ρ:Rho):D->Res D
 | .bl true=>.ok (.bl true)
 | .bl false=>b ρ
 | _=>.no
theorem eOr_at{a b:Ev}{ρ:Rho}:eOr a b ρ=(a ρ).bind (orF b ρ):=by
 unfold eOr;congr;funext c;cases c<;>try rfl
 rename_i c;cases c<;>rfl
def opF(o:Op2)(b:Ev)(ρ:Rho)(x:D):Res D:=(b ρ).bind (o x)
theorem eOp_at{o:Op2}{a b:Ev}{ρ:Rho}:eOp o a b ρ=(a ρ).bind (opF o b ρ):=rfl
def consG(d:D)(ds:List D):Res (List D):=.ok (d::ds)
def consF(r:Fv)(ρ:Rho)(d:D):Res (List D):=(r ρ).bind (consG d)
theorem aCons_at{e:Ev}{r:Fv}{ρ:Rho}:aD e r ρ=(e ρ).bind (consF r ρ):=rfl
def tupF(ds:List D):Res D:=if ds.length<=16777216 then .ok (.tup ds) else .no
theorem eTup_at{a:Fv}{ρ:Rho}:uK a ρ=(a ρ).bind tupF:=rfl
def rtF(r:Rt):Res D:=.ok r.d
def callF(m:Mir)(ds:List D):Res D:=(m ds).bind rtF
theorem eCall_at{m:Mir}{a:Fv}{ρ:Rho}:aP m a ρ=(a ρ).bind (callF m):=rfl
def isTF(T:String)(d:D):Res D:=.ok (.bl (isT T d))
theorem eIsT_at{T:String}{a:Ev}{ρ:Rho}:zMm T a ρ=(a ρ).bind (isTF T):=rfl
def frzF(d:D):Res D:=if noL d=true then .ok d else .no
theorem eFrz_at{e:Ev}{ρ:Rho}:zPP e ρ=(e (ρ.map Sl.frz)).bind frzF:=rfl
def fLstF(ds:List D):Res (List D):=if ds.length<=16777216 then .ok ds else .no
theorem fLst_at{a:Fv}{ρ:Rho}:mK a ρ=(a ρ).bind fLstF:=rfl
def rtFF:Rt->Res (List D)
 | .f ds=>.ok ds
 | .v _=>.no
def fcallF(m:Mir)(ds:List D):Res (List D):=(m ds).bind rtFF
theorem fCall_at{m:Mir}{a:Fv}{ρ:Rho}:dH m a ρ=(a ρ).bind (fcallF m):=by
 unfold dH fcallF;congr
def zIJ:List D->Res (List D)
 | [.lst ds]=>.ok ds
 | [.tup ds]=>.ok ds
 | _=>.no
theorem fListF_l{ds:List D}:zIJ [.lst ds]=.ok ds:=rfl
theorem fListF_t{ds:List D}:zIJ [.tup ds]=.ok ds:=rfl
theorem fList_at{a:Fv}{ρ:Rho}:zNB a ρ=(a ρ).bind zIJ:=rfl
def catG(x y:D):Res (List D):=match x,y with
 | .lst ds,.lst es=>if ds.length+es.length<=16777216 then .ok (ds++es) else .no
 | _,_=>.no
def catF(b:Ev)(ρ:Rho)(x:D):Res (List D):=(b ρ).bind (catG x)
theorem fCat_at{a b:Ev}{ρ:Rho}:zMM a b ρ=(a ρ).bind (catF b ρ):=rfl
def efF(ds:List D):Res D:=.ok (.lst ds)
theorem eF_at{f:Fv}{ρ:Rho}:eF f ρ=(f ρ).bind efF:=rfl
def fFrzF(ds:List D):Res (List D):=if noLs ds=true then .ok ds else .no
theorem fFrz_at{f:Fv}{ρ:Rho}:zOu f ρ=(f (ρ.map Sl.frz)).bind fFrzF:=rfl
def oSF:D->Res (Option Int)
 | .int i=>.ok (some i)
 | _=>.no
theorem oS_at{e:Ev}{ρ:Rho}:oS e ρ=(e ρ).bind oSF:=by
 unfold oS;congr
def fSlH(x:D)(l h:Option Int):Res (List D):=match x with
 | .lst ds=>.ok (gA ds l h)
 | _=>.no
def fSlG(hi:Ov)(ρ:Rho)(x:D)(l:Option Int):Res (List D):=(hi ρ).bind (fSlH x l)
def fSlF(lo hi:Ov)(ρ:Rho)(x:D):Res (List D):=(lo ρ).bind (fSlG hi ρ x)
theorem fSl_at{a:Ev}{lo hi:Ov}{ρ:Rho}:fSl a lo hi ρ=(a ρ).bind (fSlF lo hi ρ):=rfl
def zTi(x:D)(l h:Option Int):Res D:=match x with
 | .tup ds=>if (gA ds l h).length<ds.length then .ok (.tup (gA ds l h)) else .no
 | _=>.no
def blF:D->Res Bool
 | .bl b=>.ok b
 | _=>.no
theorem tVal_at{e:Ev}{ρ:Rho}:dD e ρ=(e ρ).bind blF:=by
 unfold dD;congr
def notF(b:Bool):Res Bool:=.ok (!b)
theorem tNotB_at{t:Tv}{ρ:Rho}:qU t ρ=(t ρ).bind notF:=rfl
def zNT(u:Tv)(ρ:Rho):Bool->Res Bool
 | true=>u ρ
 | false=>.ok false
theorem tAndB_at{t u:Tv}{ρ:Rho}:zAf t u ρ=(t ρ).bind (zNT u ρ):=by
 unfold zAf;congr;funext c;cases c<;>rfl
def zRh(u:Tv)(ρ:Rho):Bool->Res Bool
 | true=>.ok true
 | false=>u ρ
theorem tOrB_at{t u:Tv}{ρ:Rho}:zGi t u ρ=(t ρ).bind (zRh u ρ):=by
 unfold zGi;congr;funext c;cases c<;>rfl
def setF(i:Nat)(ρ:Rho)(d:D):Res Fl:=.ok (.nx (ρ.set i (.val d)))
theorem sSet_at{i:Nat}{e:Ev}{ρ:Rho}:cW i e ρ=(e ρ).bind (setF i ρ):=rfl
def ownF(i:Nat)(ρ:Rho)(ds:List D):Res Fl:=.ok (.nx (ρ.set i (.own ds)))
theorem sOwn_at{i:Nat}{f:Fv}{ρ:Rho}:zBc i f ρ=(f ρ).bind (ownF i ρ):=rfl
def dropF(ρ:Rho)(_d:D):Res Fl:=.ok (.nx ρ)
theorem sDrop_at{e:Ev}{ρ:Rho}:tX e ρ=(e ρ).bind (dropF ρ):=rfl
def retF(d:D):Res Fl:=.ok (.ret (.v d))
theorem sRet_at{e:Ev}{ρ:Rho}:fR e ρ=(e (ρ.map Sl.frz)).bind retF:=rfl
def retFF(ds:List D):Res Fl:=.ok (.ret (.f ds))
theorem sRetF_at{f:Fv}{ρ:Rho}:iF f ρ=(f (ρ.map Sl.frz)).bind retFF:=rfl
def raiseF(c:Str)(ds:List D):Res Fl:=if ds.length<=16777216 then .err c else .no
theorem sRaise_at{c:Str}{a:Fv}{ρ:Rho}:jV c a ρ=(a ρ).bind (raiseF c):=rfl
def appF(i:Nat)(ρ:Rho)(ds:List D)(d:D):Res Fl:=if ds.length<16777216 then .ok (.nx (ρ.set i (.own (ds++[d])))) else .no
def appS(i:Nat)(e:Ev)(ρ:Rho):Option Sl->Res Fl
 | some (.own ds)=>(e ρ).bind (appF i ρ ds)
 | _=>.no
theorem sApp_at{i:Nat}{e:Ev}{ρ:Rho}:zFl i e ρ=appS i e ρ ρ[i]?:=by
 unfold zFl appS;rfl
def extF(i:Nat)(ρ:Rho)(ds:List D)(es:List D):Res Fl:=if ds.length+es.length<=16777216 then .ok (.nx (ρ.set i (.own (ds++es)))) else .no
def extS(i:Nat)(e:Fv)(ρ:Rho):Option Sl->Res Fl
 | some (.own ds)=>(e ρ).bind (extF i ρ ds)
 | _=>.no
theorem sExt_at{i:Nat}{e:Fv}{ρ:Rho}:zKN i e ρ=extS i e ρ ρ[i]?:=by
 unfold zKN extS;rfl
def augF(i:Nat)(ρ:Rho)(o:Op2)(x y:D):Res Fl:=(o x y).bind (setF i ρ)
def augS(i:Nat)(o:Op2)(e:Ev)(ρ:Rho):Option Sl->Res Fl
 | some (.val x)=>(e ρ).bind (augF i ρ o x)
 | _=>.no
theorem sAug_at{i:Nat}{o:Op2}{e:Ev}{ρ:Rho}:zKm i o e ρ=augS i o e ρ ρ[i]?:=by
 unfold zKm augS;rfl
def dropG(ρ:Rho)(_r:Rt):Res Fl:=.ok (.nx ρ)
def setG(i:Nat)(ρ:Rho)(r:Rt):Res Fl:=.ok (.nx (ρ.set i (.val r.d)))
def varS:Option Sl->Res D
 | some (.val d)=>.ok d
 | _=>.no
theorem eVar_at{i:Nat}{ρ:Rho}:aG i ρ=varS ρ[i]?:=by
 unfold aG varS;rfl
def retS:Option Sl->Res Fl
 | some (.own ds)=>.ok (.ret (.f ds))
 | _=>.no
theorem sRetOwn_at{i:Nat}{ρ:Rho}:fU i ρ=retS ρ[i]?:=by
 unfold fU retS;rfl
def nxF(ρ:Rho):Res Fl:=.ok (.nx ρ)
def unpF(g:Gv)(ρ:Rho)(d:D):Res Fl:=(g d ρ).bind nxF
theorem sUnp_at{g:Gv}{f:Ev}{ρ:Rho}:zSX g f ρ=(f ρ).bind (unpF g ρ):=rfl
def gtF(gs:List D->Rho->Res Rho)(ρ:Rho):D->Res Rho
 | .tup ds=>gs ds ρ
 | _=>.no
theorem gTup_at{gs:List D->Rho->Res Rho}{d:D}{ρ:Rho}:zIY gs d ρ=gtF gs ρ d:=by
 unfold zIY gtF;rfl
theorem gCons_at{g:Gv}{r:List D->Rho->Res Rho}{d:D}{ds:List D}{ρ:Rho}:oH g r (d::ds) ρ=(g d ρ).bind (r ds):=rfl
theorem gNil_at{ρ:Rho}:zHv [] ρ=.ok ρ:=rfl
def forF(g:Gv)(b:Sv)(ρ:Rho)(ds:List D):Res Fl:=fS g b ds ρ
theorem sFor_at{it:Fv}{g:Gv}{b:Sv}{ρ:Rho}:wF it g b ρ=(it ρ).bind (forF g b ρ):=rfl
def zMw:D->Res (List D)
 | .lst ds=>.ok ds
 | .tup ds=>.ok ds
 | _=>.no
theorem seqD_l{ds:List D}:zMw (.lst ds)=.ok ds:=rfl
theorem seqD_t{ds:List D}:zMw (.tup ds)=.ok ds:=rfl
theorem iSeq_at{e:Ev}{ρ:Rho}:qK e ρ=(e ρ).bind zMw:=by
 unfold qK;congr
def zPu:List D->Res (List D)
 | [.int j]=>if -(2^62)<=j/\j<2^62 then .ok (rng 0 j.toNat 1) else .no
 | _=>.no
theorem iRng1_at{a:Fv}{ρ:Rho}:zQ a ρ=(a ρ).bind zPu:=rfl
def zPT:List D->Res (List D)
 | [.int i,.int j]=>if -(2^62)<=i/\i<2^62/\-(2^62)<=j/\j<2^62 then .ok (rng i (j-i).toNat 1) else .no
 | _=>.no
theorem iRng2_at{a:Fv}{ρ:Rho}:zEx a ρ=(a ρ).bind zPT:=rfl
theorem fn_at{p n:Nat}{b:Sv}{ds:List D}(h:ds.length=p):fn p n b ds=(b (start n ds)).bind fin:=by
 unfold fn;rw[if_pos h]
theorem nr{α:Sort _}{a b:α}(h:a=b):a=b:=h
theorem okb{α β:Type}{a:α}{f:α->Res β}:(Res.ok a).bind f=f a:=nr rfl
theorem erb{α β:Type}{c:Str}{f:α->Res β}:(Res.err c).bind f=.err c:=nr rfl
theorem seqF_nx{b:Sv}{ρ:Rho}:zMC b (.nx ρ)=b ρ:=nr rfl
theorem seqF_ret{b:Sv}{r:Rt}:zMC b (.ret r)=.ok (.ret r):=nr rfl
theorem gtF_t{gs:List D->Rho->Res Rho}{ρ:Rho}{ds:List D}:gtF gs ρ (.tup ds)=gs ds ρ:=nr rfl
theorem ifF_t{a b:Sv}{ρ:Rho}:ifF a b ρ true=a ρ:=nr rfl
theorem ifF_f{a b:Sv}{ρ:Rho}:ifF a b ρ false=b ρ:=nr rfl
theorem eifF_t{a b:Ev}{ρ:Rho}:zRX a b ρ true=a ρ:=nr rfl
theorem eifF_f{a b:Ev}{ρ:Rho}:zRX a b ρ false=b ρ:=nr rfl
theorem andF_t{b:Ev}{ρ:Rho}:zRV b ρ (.bl true)=b ρ:=nr rfl
theorem andF_f{b:Ev}{ρ:Rho}:zRV b ρ (.bl false)=.ok (.bl false):=nr rfl
theorem orF_t{b:Ev}{ρ:Rho}:orF b ρ (.bl true)=.ok (.bl true):=nr rfl
theorem orF_f{b:Ev}{ρ:Rho}:orF b ρ (.bl false)=b ρ:=nr rfl
theorem tandF_t{u:Tv}{ρ:Rho}:zNT u ρ true=u ρ:=nr rfl
theorem tandF_f{u:Tv}{ρ:Rho}:zNT u ρ false=.ok false:=nr rfl
theorem torF_t{u:Tv}{ρ:Rho}:zRh u ρ true=.ok true:=nr rfl
theorem torF_f{u:Tv}{ρ:Rho}:zRh u ρ false=u ρ:=nr rfl
theorem oAdd_i{i j:Int}:uB (.int i) (.int j)=.ok (.int (i+j)):=rfl
theorem oAddI_i{i j:Int}:zAx (.int i) (.int j)=.ok (.int (i+j)):=rfl
theorem oSub_i{i j:Int}:tM (.int i) (.int j)=.ok (.int (i-j)):=rfl
theorem oMul_i{i j:Int}(h:kI i j=true):oV (.int i) (.int j)=.ok (.int (i*j)):=if_pos h
theorem oDiv_i{i j:Int}(h:mH j=true):rH (.int i) (.int j)=.ok (.int (i.fdiv j)):=if_pos h
theorem oMod_i{i j:Int}(h:j≠0):tT (.int i) (.int j)=.ok (.int (i.fmod j)):=if_pos h
theorem oPow_i{i j:Int}(h:sR i j=true):zMb (.int i) (.int j)=.ok (.int (i^j.toNat)):=if_pos h
theorem oEq_i{i j:Int}:oEq (.int i) (.int j)=.ok (.bl (decide (i=j))):=rfl
theorem oNe_i{i j:Int}:oNe (.int i) (.int j)=.ok (.bl (!decide (i=j))):=rfl
theorem oLt_i{i j:Int}:oLt (.int i) (.int j)=.ok (.bl (decide (i<j))):=rfl
theorem oLe_i{i j:Int}:oLe (.int i) (.int j)=.ok (.bl (decide (i<=j))):=rfl
theorem oGt_i{i j:Int}:oGt (.int i) (.int j)=.ok (.bl (decide (j<i))):=rfl
theorem oGe_i{i j:Int}:oGe (.int i) (.int j)=.ok (.bl (decide (j<=i))):=rfl
theorem ofO_some{α:Type}{a:α}:ofO (some a)=.ok a:=rfl
theorem oNeg_i{i:Int}:zB (.int i)=.ok (.int (-i)):=rfl
theorem oNot_b{b:Bool}:zSQ (.bl b)=.ok (.bl (!b)):=rfl
theorem bAbs_i{i:Int}:zMo [.int i]=.ok (.int (i.natAbs:Int)):=by
 show Res.ok (D.int (if i<0 then -i else i))=_
 congr 2;split<;>omega
theorem bMin_i{i j:Int}:zSK [.int i,.int j]=.ok (.int (min i j)):=by
 show Res.ok (D.int (if j<i then j else i))=_
 congr 2;split<;>omega
theorem wJ{j:Int}(h1:-(2^62)<=j)(h2:j<2^62):zPu [.int j]=.ok (rng 0 j.toNat 1):=if_pos ⟨h1,h2⟩
theorem zEa{i j:Int}(h1:-(2^62)<=i)(h2:i<2^62)(h3:-(2^62)<=j)(h4:j<2^62):zPT [.int i,.int j]=.ok (rng i (j-i).toNat 1):=if_pos ⟨h1,h2,h3,h4⟩
theorem zAW{α:Type}{g:Gv}{b:Sv}{ds:List D}{ρ:Rho}{k:Fl->Res α}{Q:Res α->Prop}(P:Rho->Prop)(h0:P ρ)
  (st:∀ d ρ,d∈ds->P ρ->∃ ρ2,(g d ρ).bind b=.ok (.nx ρ2)/\P ρ2) (fi:∀ ρ',P ρ'->Q (k (.nx ρ'))):Q ((fS g b ds ρ).bind k):=by
 suffices h:∃ ρ',fS g b ds ρ=.ok (.nx ρ')/\P ρ' by
  obtain⟨ρ',e,hp⟩:=h;rw[e];exact fi ρ' hp
 clear fi
 induction ds generalizing ρ with
 | nil=>exact⟨ρ,rfl,h0⟩
 | cons d ds ih=>
  obtain⟨ρ2,e,hp⟩:=st d ρ Qb h0;obtain⟨ρ',e',hp'⟩:=ih hp fun d' ρ' hd=>st d' ρ' (Qc _ hd)
  refine⟨ρ',?_,hp'⟩
  rw[fS]
  cases hg:g d ρ with
  | no=>rw[hg] at e;cases e
  | err c=>rw[hg] at e;cases e
  | ok ρ1=>
   rw[hg] at e;have e2:b ρ1=.ok (.nx ρ2):=e;simp only[Res.bind,e2];exact e'
theorem ty_i{i:Int}:tyN (.int i) = "int" := rfl
theorem ty_b{b:Bool}:tyN (.bl b) = "bool" := rfl
theorem ty_t{ds:List D}:tyN (.tup ds) = "tuple" := rfl
theorem ty_l{ds:List D}:tyN (.lst ds) = "list" := rfl
theorem ty_s{x:Str}:tyN (.str x) = "str" := rfl
theorem ty_n:tyN .non = "NoneType" := rfl
theorem bLen_t{ds:List D}:kU [.tup ds]=.ok (.int ds.length):=rfl
theorem bLen_l{ds:List D}:kU [.lst ds]=.ok (.int ds.length):=rfl
theorem bTup_t{ds:List D}:zKV [.tup ds]=.ok (.tup ds):=rfl
theorem bTup_l{ds:List D}:zKV [.lst ds]=.ok (.tup ds):=rfl
theorem kJ{α:Type}{g:Gv}{b:Sv}{ds:List D}{ρ:Rho}{k:Fl->Res α}{Q:Res α->Prop}(P:Nat->Rho->Prop)(h0:P 0 ρ)
  (st:∀ i d ρ,ds[i]?=some d->P i ρ->∃ ρ2,(g d ρ).bind b=.ok (.nx ρ2)/\P (i+1) ρ2) (fi:∀ ρ',P ds.length ρ'->Q (k (.nx ρ'))):Q ((fS g b ds ρ).bind k):=by
 suffices h:∀(ds:List D)(j:Nat)(ρ:Rho),P j ρ->(∀ i d ρ,ds[i]?=some d->P (j+i) ρ->∃ ρ2,(g d ρ).bind b=.ok (.nx ρ2)/\P (j+i+1) ρ2)->∃ ρ',fS g b ds ρ=.ok (.nx ρ')/\P (j+ds.length) ρ' by
  obtain⟨ρ',e,hp⟩:=h ds 0 ρ h0 (fun i d ρ hd hp=>by rw[VB] at hp ⊢;exact st i d ρ hd hp)
  rw[e];exact fi ρ' (by rw[VB] at hp;exact hp)
 intro ds
 induction ds with
 | nil=>intro j ρ hp _;exact⟨ρ,rfl,hp⟩
 | cons d ds ih=>
  intro j ρ hp st;obtain⟨ρ2,e,hp2⟩:=st 0 d ρ rfl hp
  obtain⟨ρ',e',hp'⟩:=ih (j+1) ρ2 hp2 fun i d' ρ' hd hp=>by
   have:=st (i+1) d' ρ' (by simpa using hd) (by rw[show j+(i+1)=j+1+i by omega];exact hp)
   rw[show j+(i+1)=j+1+i by omega] at this;exact this
  refine⟨ρ',?_,by rw[Qn,show j+(ds.length+1)=j+1+ds.length by omega];exact hp'⟩
  rw[fS]
  cases hg:g d ρ with
  | no=>rw[hg] at e;cases e
  | err c=>rw[hg] at e;cases e
  | ok ρ1=>
   rw[hg] at e;have e2:b ρ1=.ok (.nx ρ2):=e;simp only[Res.bind,e2];exact e'
theorem yO{lo c:Int}{n i:Nat}{d:D}(h:(rng lo n c)[i]?=some d):i<n/\d=.int (lo+(i:Int)*c):=by
 unfold rng at h;rw[Qr] at h;by_cases hi:i<n
 ·rw[Vd hi] at h
  cases h;exact⟨hi,rfl⟩
 ·rw[QA (by rw[Qy];omega)] at h
  cases h
theorem zMp{lo c:Int}{n:Nat}:(rng lo n c).length=n:=by unfold rng;rw[Qe,Qy]
theorem zFS{f:Ev}{ρ:Rho}{h:D->D}:∀ {ds:List D},(∀ d∈ds,f (ρ++[.val d])=.ok (h d))->iL jK f ρ ds=.ok (ds.map h)
 | [],_=>rfl
 | d::ds,hf=>by
  rw[iL,hf d Qb];simp only[jK,noErr,Res.bind,if_true];rw[zFS fun e he=>hf e (Qc _ he)];rfl
def zIR(t:Tv)(f:Ev)(ρ:Rho)(ds:List D):Res (List D):=if ds.length<=16777215 then iL t f ρ ds else .no
theorem fComp_at{it:Fv}{t:Tv}{f:Ev}{ρ:Rho}:jR it t f ρ=(it ρ).bind (zIR t f ρ):=rfl
theorem zCC{f:Ev}{ρ:Rho}{h:D->D}{ds:List D}(hl:ds.length<=16777215)(hf:∀ d∈ds,f (ρ++[.val d])=.ok (h d)):zIR jK f ρ ds=.ok (ds.map h):=by
 unfold zIR;rw[if_pos hl,zFS hf]
theorem zOE{d:D}(h:dep d<=50):oNe d d=.ok (.bl false):=by unfold oNe;rw[if_pos h,pQ];rfl
theorem zIa{d:D}(h:dep d<=50):oEq d d=.ok (.bl true):=by unfold oEq;rw[if_pos h,pQ]
theorem zGd{ds:List D}{k:Int}(h:0<=k):gA ds none (some k)=ds.take k.toNat:=by
 unfold gA cut;simp only[h,if_true,VW,Nat.sub_zero];rcases Xd k.toNat ds.length with l | l
 ·rw[VX l]
 ·rw[Xn l,Ve,VY l]
theorem zFH{α:Type}(l:List α)(a:Nat):l.drop (min a l.length)=l.drop a:=by
 rcases Xd a l.length with h | h
 ·rw[VX h]
 ·rw[Xn h,List.drop_length,VN h]
theorem zJQ{ds:List D}{a b:Int}(h1:0<=a)(h2:0<=b):gA ds (some a) (some b)=(ds.drop a.toNat).take (b.toNat-a.toNat):=by
 unfold gA cut;simp only[h1,h2,if_true];rw[zFH];rcases Xd ds.length a.toNat with c | c
 ·rw[VN c,List.take_nil,List.take_nil]
 ·rw[VX c]
  rcases Xd b.toNat ds.length with d | d
  ·rw[VX d]
  ·rw[Xn d,VY (by rw[QX];exact Qg _),VY (by rw[QX];exact Nat.sub_le_sub_right d _)]
theorem zGs{ds:List D}{a:Int}(h1:0<=a):gA ds (some a) none=ds.drop a.toNat:=by
 unfold gA cut;simp only[h1,if_true];rw[zFH,VY (by rw[QX];omega)]
theorem mY{α:Type}{f:α->D}{l:List α}{i:Int}{a:α}(h0:0<=i)(h:l[i.toNat]?=some a):oIx (.lst (l.map f)) (.int i)=.ok (f a):=by
 show ofO (atD (l.map f) i)=_
 unfold atD;rw[if_pos h0,Qr,h];rfl
def popS(i:Nat)(ρ:Rho):Option Sl->Res Fl
 | some (.own ds)=>if ds.length=0 then .no else .ok (.nx (ρ.set i (.own ds.dropLast)))
 | _=>.no
theorem sPop_at{i:Nat}{ρ:Rho}:zPh i ρ=popS i ρ ρ[i]?:=by unfold zPh popS;rfl
theorem oIx_tc{d:D}{ds:List D}{i:Int}:oIx (.tup (d::ds)) (.int i)=ofO (atD (d::ds) i):=rfl
theorem eK{α:Type}{f:α->D}{l:List α}{i:Int}{a:α}(h0:0<=i)(h:l[i.toNat]?=some a):oIx (.tup (l.map f)) (.int i)=.ok (f a):=by
 show ofO (atD (l.map f) i)=_
 unfold atD;rw[if_pos h0,Qr,h];rfl
theorem zMi{α:Type}{f:α->D}{l:List α}{k:Nat}{a:α}(h0:0<k)(h:k<=l.length)(h2:l[l.length-k]?=some a):atD (l.map f) (-(k:Int))=some (f a):=by
 unfold atD;rw[if_neg (by omega),Qe,if_pos (by omega),show((l.length:Int)+-(k:Int)).toNat=l.length-k by omega,Qr,h2];rfl
theorem zDK{α:Type}{f:α->D}{l:List α}{k:Nat}{i:Int}{a:α}(hi:i=-(k:Int))(h0:0<k)(h:k<=l.length)(h2:l[l.length-k]?=some a):oIx (.lst (l.map f)) (.int i)=.ok (f a):=by
 show ofO (atD (l.map f) i)=_
 rw[hi,zMi h0 h h2];rfl
theorem zAS{α:Type}{f:α->D}{l:List α}{k:Nat}{i:Int}{a:α}(hi:i=-(k:Int))(h0:0<k)(h:k<=l.length)(h2:l[l.length-k]?=some a):oIx (.tup (l.map f)) (.int i)=.ok (f a):=by
 show ofO (atD (l.map f) i)=_
 rw[hi,zMi h0 h h2];rfl
theorem zJe{α:Type}{g:Gv}{b:Sv}{ds:List D}{ρ:Rho}{k:Fl->Res α}{Q:Res α->Prop}(P:Nat->Rho->Prop)(h0:P 0 ρ)
  (st:∀ i d ρ,ds[i]?=some d->P i ρ->(∃ ρ2,(g d ρ).bind b=.ok (.nx ρ2)/\P (i+1) ρ2)∨∃ r,(g d ρ).bind b=.ok (.ret r)/\Q (k (.ret r))) (fi:∀ ρ',P ds.length ρ'->Q (k (.nx ρ'))):Q ((fS g b ds ρ).bind k):=by
 suffices h:∀(ds:List D)(j:Nat)(ρ:Rho),P j ρ->(∀ i d ρ,ds[i]?=some d->P (j+i) ρ->(∃ ρ2,(g d ρ).bind b=.ok (.nx ρ2)/\P (j+i+1) ρ2)∨∃ r,(g d ρ).bind b=.ok (.ret r)/\Q (k (.ret r)))->(∃ ρ',fS g b ds ρ=.ok (.nx ρ')/\P (j+ds.length) ρ')∨∃ r,fS g b ds ρ=.ok (.ret r)/\Q (k (.ret r)) by
  rcases h ds 0 ρ h0 (fun i d ρ hd hp=>by rw[VB] at hp ⊢;exact st i d ρ hd hp) with⟨ρ',e,hp⟩ | ⟨r,e,hq⟩
  ·rw[e]
   exact fi ρ' (by rw[VB] at hp;exact hp)
  ·rw[e]
   exact hq
 intro ds
 induction ds with
 | nil=>intro j ρ hp _;exact .inl ⟨ρ,rfl,hp⟩
 | cons d ds ih=>
  intro j ρ hp st;rcases st 0 d ρ rfl hp with⟨ρ2,e,hp2⟩ | ⟨r,e,hq⟩
  ·have e3:fS g b (d::ds) ρ=fS g b ds ρ2:=by
    rw[fS]
    cases hg:g d ρ with
    | no=>rw[hg] at e;cases e
    | err c=>rw[hg] at e;cases e
    | ok ρ1=>
     rw[hg] at e;have e2:b ρ1=.ok (.nx ρ2):=e;simp only[Res.bind,e2]
   rw[e3]
   rcases ih (j+1) ρ2 hp2 (fun i d' ρ' hd hp=>by
    have:=st (i+1) d' ρ' (by simpa using hd) (by rw[show j+(i+1)=j+1+i by omega];exact hp)
    rw[show j+(i+1)=j+1+i by omega] at this
    exact this) with⟨ρ',e',hp'⟩ | h
   ·exact .inl ⟨ρ',e',by rw[Qn,show j+(ds.length+1)=j+1+ds.length by omega];exact hp'⟩
   ·exact .inr h
  ·refine .inr ⟨r,?_,hq⟩
   rw[fS]
   cases hg:g d ρ with
   | no=>rw[hg] at e;cases e
   | err c=>rw[hg] at e;cases e
   | ok ρ1=>
    rw[hg] at e;have e2:b ρ1=.ok (.ret r):=e;simp only[Res.bind,e2]
def zRs(ds:List D):D->Res (List D)
 | .int k=>if 0<=k/\k<2^62/\ds.length*k.toNat<=16777216 then .ok (List.replicate k.toNat ds).flatten else .no
 | _=>.no
def repF(g:Ev)(ρ:Rho)(ds:List D):Res (List D):=(g ρ).bind (zRs ds)
theorem fRep_at{f:Fv}{g:Ev}{ρ:Rho}:zOp f g ρ=(f ρ).bind (repF g ρ):=by
 unfold zOp repF;congr
theorem zEV{d:D}{k:Nat}(h:k<=16777216):zRs [d] (.int (k:Int))=.ok (List.replicate k d):=by
 have e:∀ n,(List.replicate n [d]).flatten=List.replicate n d:=by
  intro n
  induction n with
  | zero=>rfl
  | succ n ih=>rw[Vz,VJ,ih];rfl
 unfold zRs;dsimp only
 rw[if_pos ⟨by omega,by omega,by simp only[Qn,Xf,Q2];omega⟩,Q2,e]
theorem zHK{α:Type}{u:α->D}{f:Ev}{ρ:Rho}{g:α->D}:∀ {l:List α},(∀ a∈l,f (ρ++[.val (u a)])=.ok (g a))->iL jK f ρ (l.map u)=.ok (l.map g)
 | [],_=>rfl
 | a::l,h=>by
  rw[Qs,iL,h a Qb];simp only[jK,noErr,Res.bind,if_true];rw[zHK fun b hb=>h b (Qc _ hb)];rfl
theorem fA{α:Type}{u:α->D}{f:Ev}{ρ:Rho}{g:α->D}{l:List α}(hl:l.length<=16777215)(h:∀ a∈l,f (ρ++[.val (u a)])=.ok (g a)):zIR jK f ρ (l.map u)=.ok (l.map g):=by
 unfold zIR;rw[if_pos (by rw[Qe];exact hl),zHK h]
theorem bSum_l{ns:List Int}:zCE [.lst (ns.map D.int)]=.ok (.int ns.sum):=by
 have e:∀ ns:List Int,oJ (ns.map D.int)=some ns:=by
  intro ns
  induction ns with
  | nil=>rfl
  | cons i ns ih=>rw[Qs,oJ,ih]
 show(match oJ (ns.map D.int) with | some ns=>Res.ok (D.int ns.sum) | none=>.no)=_
 rw[e]
theorem bSum_t{ns:List Int}:zCE [.tup (ns.map D.int)]=.ok (.int ns.sum):=by
 have e:∀ ns:List Int,oJ (ns.map D.int)=some ns:=by
  intro ns
  induction ns with
  | nil=>rfl
  | cons i ns ih=>rw[Qs,oJ,ih]
 show(match oJ (ns.map D.int) with | some ns=>Res.ok (D.int ns.sum) | none=>.no)=_
 rw[e]
def slI(i:Nat)(ρ:Rho):Int:=match ρ[i]? with
 | some (.val (.int x))=>x
 | _=>0
theorem chO_s{c:Nat}:chO (some c)=.ok (.str ⟨#[c]⟩):=rfl
theorem zOQ{x:Str}:dep (.str x)<=50:=by simp[dep]
theorem oEq_s{x y:Str}:oEq (.str x) (.str y)=.ok (.bl (x==y)):=by
 unfold oEq;rw[if_pos zOQ,eqD]
theorem oNe_s{x y:Str}:oNe (.str x) (.str y)=.ok (.bl (!(x==y))):=by
 unfold oNe;rw[if_pos zOQ,eqD]
theorem eS{g:Gv}{b:Sv}{d:D}{ds:List D}{ρ ρ1 ρ2:Rho}(hg:g d ρ=.ok ρ1)(hb:b ρ1=.ok (.nx ρ2)):fS g b (d::ds) ρ=fS g b ds ρ2:=by
 rw[fS];simp only[hg,Res.bind,hb]
theorem oTabNot_s{T:List (Str×Str)}{x:Str}:sO T (.str x)=.ok (.bl (!(T.lookup x).isSome)):=rfl
theorem zBQ{α:Type}(p:α->Int):∀ l:List α,oJ (l.map fun a=>D.int (p a))=some (l.map p)
 | []=>rfl
 | a::l=>by rw[Qs,oJ,zBQ p l];rfl
def mx0:List Int->Int
 | []=>0
 | a::r=>zBx a r
theorem zCb{α:Type}{p:α->Int}{l:List α}(h:0<l.length):zDa [.lst (l.map fun a=>D.int (p a))]=.ok (.int (mx0 (l.map p))):=by
 show(match oJ (l.map fun a=>D.int (p a)) with | some (a::r)=>Res.ok (D.int (zBx a r)) | _=>.no)=_
 rw[zBQ]
 cases l with
 | nil=>cases h
 | cons a r=>rfl
def zSo:List D->Res (List D)
 | [x,y]=>match zKg x,zKg y with
  | some xs,some ys=>.ok (gT xs ys)
  | _,_=>.no
 | _=>.no
theorem iZip_at{a:Fv}{ρ:Rho}:zLt a ρ=(a ρ).bind zSo:=by
 unfold zLt;congr
theorem mQ{x y:D}{xs ys:List D}(hx:zKg x=some xs)(hy:zKg y=some ys):zSo [x,y]=.ok (gT xs ys):=by
 show(match zKg x,zKg y with | some xs,some ys=>Res.ok (gT xs ys) | _,_=>.no)=_
 rw[hx,hy]
def zJq(f:Ev)(ρ:Rho)(ds:List D):Res (List D):=if ds.length<=16777215 then gG f ρ ds else .no
theorem fComp2_at{it:Fv}{f:Ev}{ρ:Rho}:uM it f ρ=(it ρ).bind (zJq f ρ):=rfl
theorem zFx{α β:Type}{u:α->D}{v:β->D}{f:Ev}{ρ:Rho}{g:α->β->D}:∀ {l:List α} {m:List β},(∀ p∈l.zip m,f (ρ++[.val (u p.1),.val (v p.2)])=.ok (g p.1 p.2))->
  gG f ρ (gT (l.map u) (m.map v))=.ok ((l.zip m).map fun p=>g p.1 p.2)
 | [],m,h=>by cases m<;>rfl
 | a::l,[],h=>rfl
 | a::l,b::m,h=>by
  have h1:=h (a,b) Qb;have h2:=zFx (l:=l) (m:=m) (u:=u) (v:=v) (g:=g) fun p hp=>h p (Qc _ hp)
  show(noErr (f (ρ++[.val (u a),.val (v b)]))).bind (fun e=>(gG f ρ (gT (l.map u) (m.map v))).bind fun es=>.ok (e::es))=_
  rw[h1,h2];rfl
theorem mM{α β:Type}{u:α->D}{v:β->D}{f:Ev}{ρ:Rho}{g:α->β->D}{l:List α}{m:List β}(hl:l.length<=16777215)(h:∀ p∈l.zip m,f (ρ++[.val (u p.1),.val (v p.2)])=.ok (g p.1 p.2)):
  zJq f ρ (gT (l.map u) (m.map v))=.ok ((l.zip m).map fun p=>g p.1 p.2):=by
 unfold zJq;rw[if_pos,zFx h]
 have:∀(a b:List D),(gT a b).length<=a.length:=by
  intro a
  induction a with
  | nil=>intro b;cases b<;>exact Qg _
  | cons x a ih=>intro b;cases b with
   | nil=>exact QZ _
   | cons y b=>exact XN (ih b)
 exact QD (this _ _) (by rw[Qe];exact hl)
end L3
namespace Ln
open Fq
abbrev Pt:=Rat×Rat
def asc(a b:Pt):Prop:=a.1<b.1/\a.2<=b.2
def btw(a b c:Pt):Bool:=decide ((b.2-a.2)*(c.1-b.1)=(c.2-b.2)*(b.1-a.1))
def push:List Pt->Pt->List Pt
 | b::a::s,c=>if btw a b c=true then c::a::s else c::b::a::s
 | s,c=>c::s
theorem zGz{s:List Pt}{c:Pt}(h:¬ 1<s.length):push s c=c::s:=by
 match s,h with
 | [],_=>rfl
 | [b],_=>rfl
 | b::a::s,h=>exact absurd (show 1<s.length+2 by omega) h
def lV(ps:List Pt):List Pt:=(ps.foldl push []).reverse
def few:Pt->List Pt->List Pt
 | _,[]=>[]
 | _,[b]=>[b]
 | a,b::c::r=>if btw a b c=true then few b (c::r) else b::few b (c::r)
def mD:List Pt->List Pt
 | []=>[]
 | a::r=>a::few a r
def dir(a p b:Pt):Prop:=a.1<b.1/\p.1<b.1/\(b.2-a.2)*(b.1-p.1)=(b.2-p.2)*(b.1-a.1)
theorem mE{x a b:Rat}(h:x≠0)(e:a*x=b*x):a=b:=by
 have:a*x*x⁻¹=b*x*x⁻¹:=by rw[e]
 rw[XO,XO,Vr _ h,Rat.mul_one,Rat.mul_one] at this;exact this
theorem vU{a p b c:Pt}(h:dir a p b):btw a b c=btw p b c:=by
 obtain⟨h1,h2,h3⟩:=h;unfold btw;have n1:b.1-a.1≠0:=by grind
 have n2:b.1-p.1≠0:=by grind
 congr 1
 apply propext
 constructor
 ·intro e
  refine mE n1 ?_
  grind
 ·intro e
  refine mE n2 ?_
  grind
theorem zDS{a b c:Pt}(h:a.1<b.1)(k:b.1<c.1)(e:btw a b c=true):dir a b c:=by
 have e:=of_decide_eq_true e;refine⟨by grind,k,?_⟩
 grind
theorem zAk:∀(r:List Pt)(p b a:Pt)(s:List Pt),dir a p b->(b::r).Pairwise asc->(r.foldl push (b::a::s)).reverse=(a::s).reverse++few p (b::r)
 | [],p,b,a,s,_,_=>by simp[few]
 | c::r,p,b,a,s,h,hp=>by
  have hbc:asc b c:=(Qq.mp hp).1 c Qb;have hr:=(Qq.mp hp).2;rw[XC,push,few,vU h];by_cases e:btw p b c=true
  ·rw[if_pos e,if_pos e]
   exact zAk r b c a s (zDS h.1 hbc.1 (by rw[vU h];exact e)) hr
  ·rw[if_neg e,if_neg e,zAk r b c b (a::s) ⟨hbc.1,hbc.1,rfl⟩ hr]
   simp
theorem qV{ps:List Pt}(h:ps.Pairwise asc):lV ps=mD ps:=by
 unfold lV
 match ps,h with
 | [],_=>rfl
 | [a],_=>rfl
 | a::b::r,h=>
  have hab:=(Qq.mp h).1 b Qb;show(r.foldl push [b,a]).reverse=_
  rw[zAk r a b a [] ⟨hab.1,hab.1,rfl⟩ (Qq.mp h).2];rfl
theorem zDW:∀(r:List Pt)(a:Pt),(few a r).Sublist r
 | [],_=>List.Sublist.slnil
 | [b],_=>List.Sublist.refl _
 | b::c::r,a=>by
  rw[few];split
  ·exact(zDW (c::r) b).cons b
  ·exact(zDW (c::r) b).cons₂ b
theorem yY(ps:List Pt):(mD ps).Sublist ps:=by
 cases ps with
 | nil=>exact List.Sublist.slnil
 | cons a r=>exact(zDW r a).cons₂ a
theorem zFy:∀(r:List Pt)(a:Pt),(few a r).getLast?=r.getLast?
 | [],_=>rfl
 | [b],_=>rfl
 | b::c::r,a=>by
  have ih:=zFy (c::r) b;rw[few];split
  ·rw[ih];rfl
  ·rw[Xg,ih]
   simp[Xg]
theorem zEB(ps:List Pt):(mD ps).getLast?=ps.getLast?:=by
 cases ps with
 | nil=>rfl
 | cons a r=>rw[mD,Xg,zFy,Xg]
def zMD:List Pt->Prop
 | a::b::c::r=>btw a b c=false/\zMD (b::c::r)
 | _=>True
theorem zFf:∀(r:List Pt)(a:Pt),zMD (a::r)->few a r=r
 | [],_,_=>rfl
 | [b],_,_=>rfl
 | b::c::r,a,h=>by
  rw[few,h.1,zFf (c::r) b h.2];rfl
theorem zEr{ps:List Pt}(h:zMD ps):mD ps=ps:=by
 cases ps with
 | nil=>rfl
 | cons a r=>rw[mD,zFf r a h]
theorem zFe:∀(r:List Pt)(p b:Pt),(p::b::r).Pairwise asc->∃ d t,few p (b::r)=d::t/\b.1<=d.1/\(d.2-p.2)*(b.1-p.1)=(b.2-p.2)*(d.1-p.1)
 | [],p,b,_=>⟨b,[],rfl,Qh,rfl⟩
 | c::r,p,b,h=>by
  have h1:=Qq.mp h;have h2:=Qq.mp h1.2;have pb:=h1.1 b Qb;have bc:=h2.1 c Qb;rw[few];by_cases e:btw p b c=true
  ·rw[if_pos e]
   obtain⟨d,t,e1,l,e2⟩:=zFe r b c h1.2;have e3:=of_decide_eq_true e;refine⟨d,t,e1,by grind [asc],?_⟩
   have n:c.1-b.1≠0:=by grind [asc]
   refine mE n ?_
   have e4:(d.2-b.2)*(b.1-p.1)=(b.2-p.2)*(d.1-b.1):=by
    refine mE n ?_
    grind
   grind
  ·rw[if_neg e]
   exact⟨b,_,rfl,Qh,rfl⟩
theorem zX:∀(r:List Pt)(a p b:Pt),dir a p b->(b::r).Pairwise asc->(p::b::r).Pairwise asc->zMD (a::few p (b::r))
 | [],a,p,b,_,_,_=>by simp[few,zMD]
 | c::r,a,p,b,h,hb,hp=>by
  have bc:=(Qq.mp hb).1 c Qb;have hc:=(Qq.mp hb).2;rw[few];by_cases e:btw p b c=true
  ·rw[if_pos e]
   exact zX r a b c (zDS h.1 bc.1 (by rw[vU h];exact e)) hc hb
  ·rw[if_neg e]
   have ih:=zX r b b c ⟨bc.1,bc.1,rfl⟩ hc hb;obtain⟨d,t,e1,l,e2⟩:=zFe r b c hb;rw[e1] at ih ⊢
   refine⟨?_,ih⟩
   rw[vU h];rw[Bool.eq_false_iff];intro z;apply e
   have z:=of_decide_eq_true z;refine decide_eq_true ?_
   have n:d.1-b.1≠0:=by grind [asc]
   refine mE n ?_
   grind
theorem zEA{ps:List Pt}(h:ps.Pairwise asc):zMD (mD ps):=by
 match ps,h with
 | [],_=>trivial
 | [a],_=>trivial
 | a::b::r,h=>
  have hab:=(Qq.mp h).1 b Qb;exact zX r a a b ⟨hab.1,hab.1,rfl⟩ (Qq.mp h).2 h
def Ok(ps:List Pt):Prop:=ps.head?=some (0,0)/\ps.Pairwise asc
def zPR(ps:List Pt):Prop:=Ok ps/\zMD ps
theorem lL{ps:List Pt}(h:Ok ps):zPR (lV ps):=by
 rw[qV h.2];refine⟨⟨?_,h.2.sublist (yY ps)⟩,zEA h.2⟩
 obtain⟨h,_⟩:=h
 cases ps with
 | nil=>cases h
 | cons a r=>exact h
theorem lW{ps:List Pt}(h:ps.Pairwise asc){i j:Nat}{a b:Pt}(l:i<j)(ha:ps[i]?=some a)(hb:ps[j]?=some b):asc a b:=by
 obtain⟨hi,rfl⟩:=QC.mp ha;obtain⟨hj,rfl⟩:=QC.mp hb;exact Xo.mp h i j hi hj l
def SzP(n:Nat)(p:Pt):Prop:=Sz n p.1/\Sz n p.2
theorem lt_iff{p q:Rat}:p.num*q.den<q.num*p.den ↔ p<q:=Rat.lt_iff p q |>.symm
theorem zGj{t b:Int}(ht:0<t)(hb:0<b):0<Rat.divInt t b:=by
 rw[VC];have h1:(0:Rat)<(t:Rat):=by exact_mod_cast ht
 have h2:(0:Rat)<(b:Rat):=by exact_mod_cast hb
 rw[QL];exact XQ h1 (XR.mpr h2)
theorem zHy{t b:Int}(ht:0<=t)(hb:0<b):0<=Rat.divInt t b:=by
 rcases Int.lt_or_eq_of_le ht with h | h
 ·exact Qf (zGj h hb)
 ·rw[<-h,XS];exact Qh
def itp(p q:Pt)(x:Rat):Rat:=p.2+(x-p.1) / (q.1-p.1)*(q.2-p.2)
def bC:List Pt->Rat->Rat
 | [],_=>0
 | [p],_=>p.2
 | p::q::r,x=>if x<=q.1 then itp p q x else bC (q::r) x
theorem zMG(p q:Pt):itp p q p.1=p.2:=by
 unfold itp;rw[Rat.sub_self,QL,XT,XT,Rat.add_zero]
theorem zPr{p q:Pt}(h:p.1<q.1):itp p q q.1=q.2:=by
 unfold itp;have n:q.1-p.1≠0:=by grind
 rw[QL,Vr _ n,Rat.one_mul];grind
theorem bX:∀ {ps:List Pt},ps.Pairwise asc->∀ {i:Nat} {p:Pt},ps[i]?=some p->bC ps p.1=p.2
 | [],_,i,p,hp=>by cases hp
 | [a],_,i,p,hp=>by
  cases i with
  | zero=>cases hp;rfl
  | succ i=>cases hp
 | a::b::r,h,i,p,hp=>by
  have hab:=(Qq.mp h).1 b Qb;rw[bC]
  match i,hp with
  | 0,hp=>
   cases hp;rw[if_pos (Qf hab.1),zMG]
  | 1,hp=>
   cases hp;rw[if_pos Qh,zPr hab.1]
  | i+2,hp=>
   have hb:asc b p:=lW h (show 1<i+2 by omega) rfl hp
   rw[if_neg (by have:=hb.1;grind)];exact bX (Qq.mp h).2 (i:=i+1) hp
theorem cC:∀ {ps:List Pt},ps.Pairwise asc->∀ {i:Nat} {p q:Pt} {x:Rat},ps[i]?=some p->ps[i+1]?=some q->p.1<=x->x<=q.1->bC ps x=itp p q x
 | [],_,i,p,q,x,hp,_,_,_=>by cases hp
 | [a],_,i,p,q,x,hp,hq,_,_=>by cases hq
 | a::b::r,h,i,p,q,x,hp,hq,h1,h2=>by
  have hab:=(Qq.mp h).1 b Qb
  cases i with
  | zero=>
   cases hp;cases hq;rw[bC,if_pos h2]
  | succ i=>
   have hr:=(Qq.mp h).2;by_cases c:x=p.1
   ·subst c
    rw[zMG];exact bX h hp
   ·rw[bC,if_neg]
    ·exact cC hr (i:=i) hp hq h1 h2
    ·intro z
     cases i with
     | zero=>
      cases hp;exact c (by grind)
     | succ i=>
      have hb:asc b p:=lW h (show 1<i+1+1 by omega) rfl hp
      have:=hb.1
      grind
def ax:Bool->Pt->Rat
 | false,p=>p.1
 | true,p=>p.2
def axi:Bool->Int
 | false=>0
 | true=>1
theorem pG{ps:List Pt}(h:ps.Pairwise asc)(b:Bool){i j:Nat}{p q:Pt}(l:i<=j)(hp:ps[i]?=some p)(hq:ps[j]?=some q):ax b p<=ax b q:=by
 rcases VO l with l | l
 ·have:=lW h l hp hq
  cases b
  ·exact Qf this.1
  ·exact this.2
 ·subst l
  rw[hp] at hq;cases hq;exact Qh
theorem vR:∀ {ps:List Pt} {e:Pt} {x:Rat},ps.Pairwise asc->ps.getLast?=some e->(∀ p,ps.head?=some p->p.1<=x)->x<=e.1->
  (∃(i:Nat)(p:Pt),ps[i]?=some p/\p.1=x)∨∃(i:Nat)(p q:Pt),ps[i]?=some p/\ps[i+1]?=some q/\p.1<x/\x<q.1
 | [],e,x,_,he,_,_=>by cases he
 | [a],e,x,_,he,h0,h1=>by
  cases he;have:=h0 a rfl
  exact .inl ⟨0,a,rfl,by grind⟩
 | a::b::r,e,x,h,he,h0,h1=>by
  have ha:=h0 a rfl;by_cases c:a.1=x
  ·exact .inl ⟨0,a,rfl,c⟩
  by_cases d:x<b.1
  ·exact .inr ⟨0,a,b,rfl,rfl,by grind,d⟩
  ·rcases vR (Qq.mp h).2 (by rw[<-he];simp[Xg]) (fun p hp=>by cases hp;grind) h1 with⟨i,p,h2,h3⟩ | ⟨i,p,q,h2,h3,h4⟩
   ·exact .inl ⟨i+1,p,h2,h3⟩
   ·exact .inr ⟨i+1,p,q,h2,h3,h4⟩
theorem zAC{p q:Pt}(h:asc p q){x y:Rat}(l:x<=y):itp p q x<=itp p q y:=by
 unfold itp;have n:0<(q.1-p.1)⁻¹:=XR.mpr (by have:=h.1;grind)
 rw[QL,QL];have m1:(x-p.1)*(q.1-p.1)⁻¹<=(y-p.1)*(q.1-p.1)⁻¹:=Q3 (by grind) (Qf n)
 have m2:=Q3 m1 (show 0<=q.2-p.2 by have:=h.2;grind)
 grind
theorem sD{p q:Pt}(h:asc p q){x:Rat}(h1:p.1<=x)(h2:x<=q.1):p.2<=itp p q x/\itp p q x<=q.2:=by
 have a:=zAC h h1;have b:=zAC h h2;rw[zMG] at a;rw[zPr h.1] at b;exact⟨a,b⟩
theorem gY{ps:List Pt}{e:Pt}(h:Ok ps)(he:ps.getLast?=some e){x y:Rat}(h0:0<=x)(l:x<=y)(h1:y<=e.1):bC ps x<=bC ps y:=by
 obtain⟨hh,hp⟩:=h;have hd:∀ z,0<=z->∀ p,ps.head?=some p->p.1<=z:=fun z hz p hp=>by rw[hh] at hp;cases hp;exact hz
 have key:∀ {i j:Nat} {p q:Pt},i<=j->ps[i]?=some p->ps[j]?=some q->p.2<=q.2:=fun l hp' hq'=>pG hp true l hp' hq'
 have kx:∀ {i j:Nat} {p q:Pt},ps[i]?=some p->ps[j]?=some q->p.1<q.1->i<j:=by
  intro i j p q hp' hq' l;rcases XU i j with g | g
  ·exact g
  ·have:=pG hp false g hq' hp'
   exact absurd (show q.1<=p.1 from this) (by grind)
 rcases vR hp he (hd x h0) (by grind) with⟨i,p,ip,ep⟩ | ⟨i,p,q,ip,iq,lp,lq⟩
 ·rcases vR hp he (hd y (by grind)) h1 with⟨j,u,ju,eu⟩ | ⟨j,u,v,ju,jv,lu,lv⟩
  ·rw[<-ep,<-eu,bX hp ip,bX hp ju]
   by_cases c:p.1=u.1
   ·have a1:=bX hp ip
    have a2:=bX hp ju;rw[c,a2] at a1;rw[a1];exact Qh
   ·exact key (Vo (kx ip ju (by grind))) ip ju
  ·rw[<-ep,bX hp ip,cC hp ju jv (Qf lu) (Qf lv)]
   have huv:=lW hp (QT j) ju jv;have b:=sD huv (Qf lu) (Qf lv);have:i<j+1:=kx ip jv (by grind)
   have:=key (show i<=j by omega) ip ju
   grind
 ·rcases vR hp he (hd y (by grind)) h1 with⟨j,u,ju,eu⟩ | ⟨j,u,v,ju,jv,lu,lv⟩
  ·rw[<-eu,bX hp ju,cC hp ip iq (Qf lp) (Qf lq)]
   have hpq:=lW hp (QT i) ip iq;have b:=sD hpq (Qf lp) (Qf lq);have:i<j:=kx ip ju (by grind)
   have:=key (show i+1<=j by omega) iq ju
   grind
  ·rw[cC hp ip iq (Qf lp) (Qf lq),cC hp ju jv (Qf lu) (Qf lv)]
   have hpq:=lW hp (QT i) ip iq;have huv:=lW hp (QT j) ju jv;have g1:i<j+1:=kx ip jv (by grind)
   rcases VO (show i<=j by omega) with g | g
   ·have b1:=sD hpq (Qf lp) (Qf lq)
    have b2:=sD huv (Qf lu) (Qf lv);have:=key (show i+1<=j by omega) iq ju
    grind
   ·subst g
    rw[ip] at ju;rw[iq] at jv;cases ju;cases jv;exact zAC hpq l
theorem vP{ps:List Pt}{e:Pt}(h:Ok ps)(he:ps.getLast?=some e){x:Rat}(h0:0<=x)(h1:x<=e.1):0<=bC ps x/\bC ps x<=e.2:=by
 have z:bC ps 0=0:=bX h.2 (i:=0) (p:=(0,0)) (by rw[<-Vk];exact h.1)
 have t:bC ps e.1=e.2:=bX h.2 (i:=ps.length-1) (by rw[<-Q4];exact he)
 have e0:0<=e.1:=by grind
 have a:=gY h he (Qh) h0 h1;have b:=gY h he h0 h1 Qh;grind
theorem zGI{a b c:Pt}(h1:a.1<b.1)(h2:b.1<c.1)(e:btw a b c=true):(b.2-a.2) / (b.1-a.1)=(c.2-a.2) / (c.1-a.1)/\(c.2-b.2) / (c.1-b.1)=(c.2-a.2) / (c.1-a.1):=by
 have e:=of_decide_eq_true e;have n1:b.1-a.1≠0:=by grind
 have n2:c.1-b.1≠0:=by grind
 have n3:c.1-a.1≠0:=by grind
 have i1:=Vr _ n1;have i2:=Vr _ n2;have i3:=Vr _ n3;rw[QL,QL,QL];constructor
 ·refine mE n1 (mE n3 ?_)
  grind
 ·refine mE n2 (mE n3 ?_)
  grind
theorem iD(p q:Pt)(x:Rat):itp p q x=p.2+(x-p.1)*((q.2-p.2) / (q.1-p.1)):=by
 unfold itp;rw[QL,QL];grind
theorem zKH{a b c:Pt}(h1:a.1<b.1)(h2:b.1<c.1)(e:btw a b c=true)(x:Rat):itp a b x=itp a c x/\itp b c x=itp a c x:=by
 obtain⟨s1,s2⟩:=zGI h1 h2 e;rw[iD,iD,iD,s1,s2];refine⟨rfl,?_⟩
 have n1:b.1-a.1≠0:=by grind
 have i1:=Vr _ n1;rw[<-s1,QL];generalize (b.1-a.1)⁻¹=u at i1;grind
theorem zKF{a b c:Pt}{r:List Pt}(h1:a.1<b.1)(h2:b.1<c.1)(e:btw a b c=true)(x:Rat):bC (a::b::c::r) x=bC (a::c::r) x:=by
 obtain⟨e1,e2⟩:=zKH h1 h2 e x;rw[bC,bC,bC,e1,e2];by_cases c1:x<=b.1
 ·rw[if_pos c1,if_pos (by grind)]
 ·rw[if_neg c1]
theorem zEv:∀(r:List Pt)(a p b:Pt)(x:Rat),dir a p b->(b::r).Pairwise asc->bC (a::few p (b::r)) x=bC (a::b::r) x
 | [],a,p,b,x,_,_=>rfl
 | c::r,a,p,b,x,h,hb=>by
  have bc:=(Qq.mp hb).1 c Qb;have hc:=(Qq.mp hb).2;rw[few];by_cases e:btw p b c=true
  ·have e':btw a b c=true:=by rw[vU h];exact e
   rw[if_pos e,zEv r a b c x (zDS h.1 bc.1 e') hc,zKF h.1 bc.1 e']
  ·show _=(if x<=b.1 then itp a b x else bC (b::c::r) x)
   rw[if_neg e,bC,zEv r b b c x ⟨bc.1,bc.1,rfl⟩ hc]
theorem yQ{ps:List Pt}(h:ps.Pairwise asc)(x:Rat):bC (lV ps) x=bC ps x:=by
 rw[qV h]
 match ps,h with
 | [],_=>rfl
 | [a],_=>rfl
 | a::b::r,h=>
  have hab:=(Qq.mp h).1 b Qb;exact zEv r a a b x ⟨hab.1,hab.1,rfl⟩ (Qq.mp h).2
theorem wV{ps:List Pt}(h:ps.Pairwise asc):(lV ps).getLast?=ps.getLast?:=by rw[qV h,zEB]
theorem oD{ps:List Pt}(h:ps.Pairwise asc):(lV ps).Sublist ps:=by rw[qV h];exact yY ps
theorem zIi{C:List Rat}(h:C.Pairwise (· < ·))(h0:(0:Rat)∈C)(hn:∀ x∈C,0<=x):C.head?=some 0:=by
 cases C with
 | nil=>cases h0
 | cons a C=>
  rcases Qd.mp h0 with e | e
  ·rw[<-e];rfl
  ·have h1:=(Qq.mp h).1 0 e
   have h2:=hn a Qb;grind
theorem zOy{C:List Rat}{e L:Rat}(h:C.Pairwise (· < ·))(he:C.getLast?=some e)(hL:L∈C)(hn:∀ x∈C,x<=L):e=L:=by
 obtain⟨j,hj⟩:=VP.mp hL;rw[Q4] at he;have hjl:=(QC.mp hj).1;have h1:=hn e (Qi he);rcases VO (show j<=C.length-1 by omega) with l | l
 ·obtain⟨hi,e1⟩:=QC.mp hj
  obtain⟨hi2,e2⟩:=QC.mp he;have:=Xo.mp h j (C.length-1) hi hi2 l
  rw[e1,e2] at this;grind
 ·subst l
  rw[he] at hj;cases hj;rfl
theorem zNa{ps:List Pt}(h:ps.Pairwise asc):(ps.map Prod.fst).Pairwise (· < ·):=VD.mpr (h.imp fun a=>a.1)
theorem gD{ps:List Pt}{e p:Pt}(h:Ok ps)(he:ps.getLast?=some e)(hp:p∈ps):0<=p.1/\p.1<=e.1/\0<=p.2/\p.2<=e.2:=by
 obtain⟨i,hi⟩:=VP.mp hp;have hil:=(QC.mp hi).1;have h0:ps[0]?=some (0,0):=by rw[<-Vk];exact h.1
 rw[Q4] at he;have a1:(0:Rat)<=p.1:=pG h.2 false (QZ i) h0 hi;have a2:(0:Rat)<=p.2:=pG h.2 true (QZ i) h0 hi;have b1:p.1<=e.1:=pG h.2 false (show i<=ps.length-1 by omega) hi he
 have b2:p.2<=e.2:=pG h.2 true (show i<=ps.length-1 by omega) hi he
 exact⟨a1,b1,a2,b2⟩
theorem zJh{ps:List Pt}{e:Pt}{a b x:Rat}(h:Ok ps)(he:ps.getLast?=some e)(h0:0<=a)(hab:a<b)(hb:b<=e.1)(hno:∀ p∈ps,a<p.1->b<=p.1)(hx:a<=x)(xb:x<=b):
  (bC ps x-bC ps a)*(b-a)=(bC ps b-bC ps a)*(x-a):=by
 have key:∃(i:Nat)(p q:Pt),ps[i]?=some p/\ps[i+1]?=some q/\p.1<=a/\b<=q.1:=by
  rcases vR h.2 he (fun p hp=>by rw[h.1] at hp;cases hp;exact h0) (show a<=e.1 by grind) with⟨i,p,ip,ep⟩ | ⟨i,p,q,ip,iq,lp,lq⟩
  ·have hi:=(QC.mp ip).1
   have hl:i+1<ps.length:=by
    rcases XU (i+1) ps.length with l | l
    ·exact l
    ·rw[Q4,show ps.length-1=i by omega,ip] at he
     cases he;grind
   have iq:ps[i+1]?=some ps[i+1]:=Ql hl;have:=(lW h.2 (QT i) ip iq).1
   exact⟨i,p,ps[i+1],ip,iq,by grind,hno _ (Qi iq) (by grind)⟩
  ·exact⟨i,p,q,ip,iq,Qf lp,hno _ (Qi iq) lq⟩
 obtain⟨i,p,q,ip,iq,l1,l2⟩:=key;rw[cC h.2 ip iq l1 (by grind),cC h.2 ip iq (show p.1<=x by grind) (by grind),cC h.2 ip iq (show p.1<=b by grind) l2];rw[iD,iD,iD];grind
def rL(ps qs:List Pt)(C:List Rat):List Pt:=C.map fun t=>(t,bC ps (bC qs t))
structure Joints (ps qs:List Pt) (f:Pt) (C:List Rat):Prop where
 asc:C.Pairwise (· < ·)
 own:∀ q∈qs,q.1∈C
 hit:∀ p∈ps,∃ t∈C,bC qs t=p.1
 bd:∀ t∈C,0<=t/\t<=f.1
theorem zGe{ps qs:List Pt}{e f:Pt}{C:List Rat}(hp:Ok ps)(hq:Ok qs)(he:ps.getLast?=some e)(hf:qs.getLast?=some f)(hL:e.1=f.2)(J:Joints ps qs f C):
  Ok (rL ps qs C)/\(rL ps qs C).getLast?=some (f.1,e.2):=by
 have z0:(0:Rat)∈C:=J.own (0,0) (List.mem_of_mem_head? (by rw[hq.1];rfl))
 have zL:f.1∈C:=J.own f (Yu hf);have v0:∀ {ls:List Pt},Ok ls->bC ls 0=0:=fun {ls} h=>bX h.2 (i:=0) (p:=(0,0)) (by rw[<-Vk];exact h.1)
 have vL:∀ {ls:List Pt} {u:Pt},Ok ls->ls.getLast?=some u->bC ls u.1=u.2:=fun {ls u} h hu=>bX h.2 (i:=ls.length-1) (by rw[<-Q4];exact hu)
 refine⟨⟨?_,?_⟩,?_⟩
 ·unfold rL
  rw[Xh,zIi J.asc z0 fun x hx=>(J.bd x hx).1];show some (0,bC ps (bC qs 0))=_
  rw[v0 hq,v0 hp]
 ·unfold rL
  refine VD.mpr (VZ ?_ J.asc)
  intro a b ha hb hab;have b1:=vP hq hf (J.bd a ha).1 (J.bd a ha).2;have b2:=vP hq hf (J.bd b hb).1 (J.bd b hb).2;exact⟨hab,gY hp he b1.1 (gY hq hf (J.bd a ha).1 (Qf hab) (J.bd b hb).2) (by rw[hL];exact b2.2)⟩
 ·unfold rL
  rw[VE]
  cases hc:C.getLast? with
  | none=>rw[List.getLast?_eq_none_iff] at hc;rw[hc] at z0;cases z0
  | some u=>
   have:u=f.1:=zOy J.asc hc zL fun x hx=>(J.bd x hx).2
   subst this;show some (f.1,bC ps (bC qs f.1))=_
   rw[vL hq hf,<-hL,vL hp he]
theorem zIW{ps qs:List Pt}{e f:Pt}{C:List Rat}(hp:Ok ps)(hq:Ok qs)(he:ps.getLast?=some e)(hf:qs.getLast?=some f)(hL:e.1=f.2)(J:Joints ps qs f C){x:Rat}(h0:0<=x)(h1:x<=f.1):
  bC (rL ps qs C) x=bC ps (bC qs x):=by
 obtain⟨ok,la⟩:=zGe hp hq he hf hL J
 have at':∀ {i:Nat} {u:Pt},(rL ps qs C)[i]?=some u->C[i]?=some u.1/\u.2=bC ps (bC qs u.1):=by
  intro i u hu;unfold rL at hu;rw[Qr] at hu
  cases hc:C[i]? with
  | none=>rw[hc] at hu;cases hu
  | some c=>rw[hc] at hu;cases hu;exact⟨rfl,rfl⟩
 rcases vR ok.2 la (fun p hp=>by rw[ok.1] at hp;cases hp;exact h0) h1 with⟨i,u,iu,eu⟩ | ⟨i,u,v,iu,iv,lu,lv⟩
 ·obtain⟨_,e2⟩:=at' iu
  rw[<-eu,bX ok.2 iu,e2]
 ·obtain⟨c1,e1⟩:=at' iu
  obtain⟨d1,e2⟩:=at' iv;rw[cC ok.2 iu iv (Qf lu) (Qf lv)];have hC:=J.asc
  have out:∀ t∈C,t<=u.1∨v.1<=t:=by
   intro t ht;obtain⟨j,hj⟩:=VP.mp ht
   have lt:∀ {i j:Nat} {a b:Rat},i<j->C[i]?=some a->C[j]?=some b->a<b:=by
    intro i j a b l ha hb;obtain⟨hi,rfl⟩:=QC.mp ha;obtain⟨hj,rfl⟩:=QC.mp hb;exact Xo.mp hC i j hi hj l
   rcases Nat.lt_trichotomy j i with l | l | l
   ·exact .inl (Qf (lt l hj c1))
   ·subst l;rw[hj] at c1;cases c1;exact .inl Qh
   ·rcases VO (show i+1<=j by omega) with l | l
    ·exact .inr (Qf (lt l d1 hj))
    ·subst l;rw[hj] at d1;cases d1;exact .inr Qh
  have bu:=J.bd u.1 (Qi c1);have bv:=J.bd v.1 (Qi d1);have luv:u.1<v.1:=by grind
  have l2:=zJh hq hf bu.1 luv bv.2 (fun p hp l=>by
   rcases out p.1 (J.own p hp) with z | z
   ·grind
   ·exact z) (Qf lu) (Qf lv)
  have mA:=gY hq hf bu.1 (Qf lu) (show x<=f.1 by grind)
  have mB:=gY hq hf (show 0<=x by grind) (Qf lv) bv.2
  have nA:=vP hq hf bu.1 bu.2;have nB:=vP hq hf bv.1 bv.2;have n:v.1-u.1≠0:=by grind
  have i1:=Vr _ n;unfold itp;rw[e1,e2,QL]
  have fin:(bC ps (bC qs x)-bC ps (bC qs u.1))*(v.1-u.1)=(bC ps (bC qs v.1)-bC ps (bC qs u.1))*(x-u.1):=by
   by_cases c:bC qs u.1=bC qs v.1
   ·have:bC qs x=bC qs u.1:=by grind
    rw[this,<-c];grind
   ·have AB:bC qs u.1<bC qs v.1:=by grind
    have l1:=zJh hp he nA.1 AB (by rw[hL];exact nB.2) (fun p hp' l=>by
     obtain⟨t,ht,et⟩:=J.hit p hp';have bt:=J.bd t ht;rcases out t ht with z | z
     ·have:=gY hq hf bt.1 z bu.2
      grind
     ·have:=gY hq hf bv.1 z bt.2
      grind) mA mB
    have nn:bC qs v.1-bC qs u.1≠0:=by grind
    refine mE nn ?_
    grind
  generalize (v.1-u.1)⁻¹=w at i1;refine mE n ?_
  grind
def zEW(ps:List Pt)(y r:Rat):Prop:=∃(k:Nat)(q:Pt),ps[k]?=some q/\(∀(j:Nat)(p:Pt),j<k->ps[j]?=some p->p.2<y)/\
 ((q.2=y/\r=q.1)∨(0<k/\y<q.2/\∃ p:Pt,ps[k-1]?=some p/\p.2<y/\r=itp (p.2,p.1) (q.2,q.1) y))
theorem zEW.val{ps:List Pt}{e:Pt}{y r:Rat}(h:Ok ps)(he:ps.getLast?=some e)(u:zEW ps y r):bC ps r=y/\0<=r/\r<=e.1:=by
 obtain⟨k,q,hq,hj,c⟩:=u;have bq:=gD h he (Qi hq);rcases c with⟨c1,rfl⟩ | ⟨k0,l,p,hp,lp,rfl⟩
 ·exact⟨by rw[bX h.2 hq,c1],bq.1,bq.2.1⟩
 ·have bp:=gD h he (Qi hp)
  have hq':ps[k-1+1]?=some q:=by rw[show k-1+1=k by omega];exact hq
  have pq:=lW h.2 (QT (k-1)) hp hq';have sw:asc (p.2,p.1) (q.2,q.1):=⟨by show p.2<q.2;grind,Qf pq.1⟩
  have b:=sD sw (x:=y) (Qf lp) (Qf l);have b1:p.1<=itp (p.2,p.1) (q.2,q.1) y:=b.1;have b2:itp (p.2,p.1) (q.2,q.1) y<=q.1:=b.2;refine⟨?_,by grind,by grind⟩
  rw[cC h.2 hp hq' b1 b2];have n1:q.1-p.1≠0:=by have:=pq.1;grind
  have n2:q.2-p.2≠0:=by grind
  have i1:=Vr _ n1;have i2:=Vr _ n2;unfold itp;dsimp only
  rw[QL,QL];generalize (q.1-p.1)⁻¹=a at i1;generalize (q.2-p.2)⁻¹=b at i2;grind
theorem zRa{p q:Pt}(h1:p.1<q.1)(h2:p.2<q.2){x y:Rat}(l:x<y):itp p q x<itp p q y:=by
 have n:0<(q.1-p.1)⁻¹:=XR.mpr (by grind)
 have s:0<(q.2-p.2)*(q.1-p.1)⁻¹:=XQ (by grind) n
 rw[iD,iD,QL];have:=Rat.mul_lt_mul_of_pos_right (show x-p.1<y-p.1 by grind) s
 grind
theorem zEW.least{ps:List Pt}{e:Pt}{y r:Rat}(h:Ok ps)(he:ps.getLast?=some e)(u:zEW ps y r){t:Rat}(t0:0<=t)(l:t<r):bC ps t<y:=by
 have hv:=u.val h he;obtain⟨k,q,hq,hj,c⟩:=u;have h00:ps[0]?=some (0,0):=by rw[<-Vk];exact h.1
 have k0:0<k:=by
  rcases XV k with z | z
  ·subst z
   rw[h00] at hq;cases hq;rcases c with⟨_,c⟩ | ⟨c,_⟩
   ·have:r=0:=c
    grind
   ·exact absurd c (by decide)
  ·exact z
 have hkl:=(QC.mp hq).1;have hp:ps[k-1]?=some ps[k-1]:=Ql (by omega)
 have hq':ps[k-1+1]?=some q:=by rw[show k-1+1=k by omega];exact hq
 have lp:=hj _ _ (show k-1<k by omega) hp
 have pq:=lW h.2 (QT (k-1)) hp hq';have vp:=bX h.2 hp;generalize ps[k-1]=p at hp lp pq vp
 have yq:y<=q.2:=by
  rcases c with⟨c,_⟩ | ⟨_,c,_⟩
  ·rw[c];exact Qh
  ·exact Qf c
 have rq:r<=q.1:=by
  rcases c with⟨_,c⟩ | ⟨_,c1,p',hp',lp',c⟩
  ·rw[c];exact Qh
  ·rw[c]
   rw[hp] at hp';cases hp'
   have sw:asc (p.2,p.1) (q.2,q.1):=⟨by show p.2<q.2;grind,Qf pq.1⟩
   exact(sD sw (x:=y) (Qf lp) yq).2
 by_cases c1:t<=p.1
 ·have bp:=gD h he (Qi hp)
  have:=gY h he t0 c1 bp.2.1
  grind
 ·have e1:=cC h.2 hp hq' (x:=t) (by grind) (by grind)
  have e2:=cC h.2 hp hq' (x:=r) (by grind) rq
  have:=zRa pq.1 (show p.2<q.2 by grind) l
  rw[e1];rw[e2] at hv;grind
theorem zEW.uniq{ps:List Pt}{e:Pt}{y r r':Rat}(h:Ok ps)(he:ps.getLast?=some e)(u:zEW ps y r)(v:bC ps r'=y)(r0:0<=r')(lt:∀ t,0<=t->t<r'->bC ps t<y):r=r':=by
 have hv:=u.val h he;by_cases l:r<r'
 ·have:=lt r hv.2.1 l
  grind
 ·by_cases l2:r' < r
  ·have:=u.least h he r0 l2
   grind
  ·grind
end Ln
namespace L3
open PySem PySem.Spec PyProof.Rows L2
abbrev St:=L2.St
mutual
inductive IsD (K:PySem.W.Frag) (H:Hp):V->D->Prop where
 | non:IsD K H .non .non
 | bl (b:Bool):IsD K H (.bl b) (.bl b)
 | int (i:Int):IsD K H (.int i) (.int i)
 | str (x:Str):IsD K H (.str x) (.str x)
 | tup {a:Addr} {xs:List V} {ds:List D}:SqT K H a xs->IsDs K H xs ds->IsD K H (.ref a) (.tup ds)
 | lst {a:Addr} {xs:List V} {ds:List D}:SqL K H a xs->IsDs K H xs ds->IsD K H (.ref a) (.lst ds)
inductive IsDs (K:PySem.W.Frag) (H:Hp):List V->List D->Prop where
 | nil:IsDs K H [] []
 | cons {v:V} {d:D} {vs:List V} {ds:List D}:IsD K H v d->IsDs K H vs ds->IsDs K H (v::vs) (d::ds)
end
theorem _root_.L2.Same.rd{H H':Hp}(e:Same H H'){a:Addr}{u:HO}(h:Rd H a u):Rd H' a u:=by
 rcases h with h | ⟨o,h⟩
 ·exact .inl (e _ _ h)
 ·exact .inr ⟨o,e _ _ h⟩
theorem cG{K:Fg_}{H H':Hp}(e:Same H H'){a:Addr}{xs:List V}(h:SqT K H a xs):SqT K H' a xs:=h.imp (Same.rd e) id
theorem dB{K:Fg_}{H H':Hp}(e:Same H H'){a:Addr}{xs:List V}(h:SqL K H a xs):SqL K H' a xs:=h.imp (Same.rd e) id
section
variable{K:Fg_}{H H':Hp}
mutual
theorem IsD.mono(e:Same H H'):∀ {v:V} {d:D},IsD K H v d->IsD K H' v d
 | _,_,.non=>.non
 | _,_,.bl b=>.bl b
 | _,_,.int i=>.int i
 | _,_,.str x=>.str x
 | _,_,.tup h hs=>.tup (cG e h) (IsDs.mono e hs)
 | _,_,.lst h hs=>.lst (dB e h) (IsDs.mono e hs)
theorem IsDs.mono(e:Same H H'):∀ {vs:List V} {ds:List D},IsDs K H vs ds->IsDs K H' vs ds
 | _,_,.nil=>.nil
 | _,_,.cons h hs=>.cons (IsD.mono e h) (IsDs.mono e hs)
end
theorem IsDs.length:∀ {vs:List V} {ds:List D},IsDs K H vs ds->vs.length=ds.length
 | _,_,.nil=>rfl
 | _,_,.cons _ hs=>by rw[Qn,Qn,IsDs.length hs]
theorem IsDs.at:∀ {vs:List V} {ds:List D} {j:Nat} {d:D},IsDs K H vs ds->ds[j]?=some d->∃ v,vs[j]?=some v/\IsD K H v d
 | _,_,_,_,.nil,e=>by simp at e
 | _,_,0,_,.cons r _,e=>by simp at e;subst e;exact⟨_,rfl,r⟩
 | _,_,j+1,d,.cons _ t,e=>by
  obtain⟨v,h1,h2⟩:=IsDs.at (j:=j) (d:=d) t (by simpa using e)
  exact⟨v,by simpa using h1,h2⟩
theorem IsDs.append:∀ {vs ws:List V} {ds es:List D},IsDs K H vs ds->IsDs K H ws es->IsDs K H (vs++ws) (ds++es)
 | _,_,_,_,.nil,s=>s
 | _,_,_,_,.cons r t,s=>.cons r (IsDs.append t s)
theorem IsDs.take:∀ {vs:List V} {ds:List D} (n:Nat),IsDs K H vs ds->IsDs K H (vs.take n) (ds.take n)
 | _,_,0,_=>.nil
 | _,_,_+1,.nil=>.nil
 | _,_,n+1,.cons r t=>.cons r (IsDs.take n t)
theorem IsDs.drop:∀ {vs:List V} {ds:List D} (n:Nat),IsDs K H vs ds->IsDs K H (vs.drop n) (ds.drop n)
 | _,_,0,r=>r
 | _,_,_+1,.nil=>.nil
 | _,_,n+1,.cons _ t=>IsDs.drop n t
theorem IsDs.dropLast:∀ {vs:List V} {ds:List D},IsDs K H vs ds->IsDs K H vs.dropLast ds.dropLast
 | _,_,.nil=>.nil
 | _,_,.cons _ .nil=>.nil
 | _,_,.cons r (.cons q t)=>.cons r (IsDs.dropLast (.cons q t))
theorem IsDs.set{v:V}{d:D}(h:IsD K H v d):∀ {vs:List V} {ds:List D} (j:Nat),IsDs K H vs ds->IsDs K H (vs.set j v) (ds.set j d)
 | _,_,_,.nil=>.nil
 | _,_,0,.cons _ t=>.cons h t
 | _,_,j+1,.cons q t=>.cons q (IsDs.set h j t)
mutual
theorem IsD.noL(k:∀ b xs,Rd H b (.tup xs)->Rd H' b (.tup xs)):∀ {v:V} {d:D},IsD K H v d->L3.noL d=true->IsD K H' v d
 | _,_,.non,_=>.non
 | _,_,.bl b,_=>.bl b
 | _,_,.int i,_=>.int i
 | _,_,.str x,_=>.str x
 | _,_,.tup h hs,e=>.tup (h.imp (k _ _) id) (IsDs.noL k hs (by rw[L3.noL] at e;exact e))
 | _,_,.lst h hs,e=>by rw[L3.noL] at e;cases e
theorem IsDs.noL(k:∀ b xs,Rd H b (.tup xs)->Rd H' b (.tup xs)):∀ {vs:List V} {ds:List D},IsDs K H vs ds->L3.noLs ds=true->IsDs K H' vs ds
 | _,_,.nil,_=>.nil
 | _,_,.cons h hs,e=>by
  rw[L3.noLs,Va] at e;exact .cons (IsD.noL k h e.1) (IsDs.noL k hs e.2)
end
end
theorem IsD.intI{K:Fg_}{H:Hp}{v:V}{i:Int}(h:IsD K H v (.int i)):v=.int i:=by cases h;rfl
theorem IsD.blI{K:Fg_}{H:Hp}{v:V}{b:Bool}(h:IsD K H v (.bl b)):v=.bl b:=by cases h;rfl
theorem IsD.strI{K:Fg_}{H:Hp}{v:V}{x:Str}(h:IsD K H v (.str x)):v=.str x:=by cases h;rfl
theorem IsD.tupI{K:Fg_}{H:Hp}{v:V}{ds:List D}(h:IsD K H v (.tup ds)):∃ a xs,v=.ref a/\SqT K H a xs/\IsDs K H xs ds:=by
 cases h with
 | tup h hs=>exact⟨_,_,rfl,h,hs⟩
theorem IsD.lstI{K:Fg_}{H:Hp}{v:V}{ds:List D}(h:IsD K H v (.lst ds)):∃ a xs,v=.ref a/\SqL K H a xs/\IsDs K H xs ds:=by
 cases h with
 | lst h hs=>exact⟨_,_,rfl,h,hs⟩
def tQ:Str := "ranked.<locals>.<lambda>"
def zCy(P:Addr)(H:Hp):Prop:=∃ ps,H P=some (.tbl ps)/\TriplesOk ps.toList/\∀(pos:Pos)(cv:Value),codeAmong pos ps.toList=some cv->∃ c oc vs t u,cv=.ref c/\H c=some (.frz oc u)/\oc.data=.fields vs/\vs[1]?=some (.str tQ t)
theorem zCy.put{P a:Addr}{H:Hp}{x:HO}(h:zCy P H)(h1:∀ ps,H a≠some (.tbl ps))(h2:∀ o u,H a≠some (.frz o u)):zCy P (upd H a x):=by
 obtain⟨ps,e,t,k⟩:=h;refine⟨ps,by rw[bA (show P≠a from fun z=>h1 ps (by rw[<-z];exact e))];exact e,t,fun pos cv q=>?_⟩
 obtain⟨c,oc,vs,tk,u,r1,r2,r3⟩:=k pos cv q;exact⟨c,oc,vs,tk,u,r1,by rw[bA (show c≠a from fun z=>h2 oc u (by rw[<-z];exact r2))];exact r2,r3⟩
structure Keep (H H':Hp):Prop where
 k:∀ b o,H b=some o->H' b=some o∨∃ ps ps',o=.tbl ps/\H' b=some (.tbl ps')
 t:∀ P,zCy P H->zCy P H'
theorem Keep.refl(H:Hp):Keep H H:=⟨fun _ _ e=>.inl e,fun _ e=>e⟩
theorem Keep.trans{H H1 H2:Hp}(a:Keep H H1)(b:Keep H1 H2):Keep H H2:=
 ⟨fun c o e=>by
  rcases a.k c o e with z | ⟨ps,ps',rfl,z⟩
  ·exact b.k c o z
  ·rcases b.k c _ z with y | ⟨qs,qs',_,y⟩
   ·exact .inr ⟨ps,ps',rfl,y⟩
   ·exact .inr ⟨ps,qs',rfl,y⟩,fun P e=>b.t P (a.t P e)⟩
theorem Keep.at{H H':Hp}(k:Keep H H'){b:Addr}{o:HO}(e:H b=some o)(ho:∀ ps,o≠.tbl ps:=by intro ps z;cases z):H' b=some o:=by
 rcases k.k b o e with z | ⟨ps,ps',z,_⟩
 ·exact z
 ·exact absurd z (ho ps)
theorem Keep.none{H H':Hp}(k:Keep H H'){p:Addr}(e:H' p=none):H p=none:=by
 cases z:H p with
 | none=>rfl
 | some o=>rcases k.k p o z with y | ⟨_,_,_,y⟩<;>(rw[y] at e;cases e)
structure Ext (Hi H Hi' H':Hp):Prop where
 i:Same Hi Hi'
 h:Keep H H'
 s:Same Hi' H'
 n:∀ b,Hi b=none->Hi' b≠none->H b=none
theorem Ext.refl{Hi H:Hp}(h:Same Hi H):Ext Hi H Hi H:=⟨Same.refl _,Keep.refl _,h,fun _ e q=>absurd e q⟩
theorem Ext.trans{Hi H Hi1 H1 Hi2 H2:Hp}(a:Ext Hi H Hi1 H1)(b:Ext Hi1 H1 Hi2 H2):Ext Hi H Hi2 H2:=
 ⟨a.i.trans b.i,a.h.trans b.h,b.s,fun c e q=>by
  cases z:Hi1 c with
  | some o=>exact a.n c e (by rw[z];exact fun w=>by cases w)
  | none=>
   have z2:=b.n c z q
   exact a.h.none z2⟩
theorem dG{H:Hp}{p:Addr}(h:H p=none)(o:HO):Same H (upd H p o):=fun b u q=>by rw[bA (bD q h)];exact q
theorem zFs{H:Hp}{p:Addr}(h:H p=none)(o:HO):Keep H (upd H p o):=⟨fun b u q=>.inl (dG h o b u q),fun P e=>e.put (fun ps z=>by rw[h] at z;cases z) (fun ob u z=>by rw[h] at z;cases z)⟩
theorem _root_.L2.Same.none{H H':Hp}(h:Same H H'){p:Addr}(e:H' p=none):H p=none:=by
 cases z:H p with
 | none=>rfl
 | some o=>rw[h _ _ z] at e;cases e
theorem Ext.new{Hi H:Hp}{p:Addr}{o:HO}(h:Same Hi H)(hp:H p=none):Ext Hi H (upd Hi p o) (upd H p o) where
 i:=dG (h.none hp) o
 h:=zFs hp o
 s:=fun b u q=>by
  by_cases e:b=p
  ·subst e;rw[aY] at q ⊢;exact q
  ·rw[bA e] at q ⊢;exact h _ _ q
 n:=fun b e q=>by
  by_cases z:b=p
  ·rw[z];exact hp
  ·rw[bA z] at q;exact absurd e q
theorem Ext.newF{Hi H:Hp}{p:Addr}{o:HO}(h:Same Hi H)(hp:H p=none):Ext Hi H Hi (upd H p o) where
 i:=Same.refl _
 h:=zFs hp o
 s:=h.trans (dG hp o)
 n:=fun b e q=>absurd e q
theorem Ext.out{Hi H Hi' H':Hp}(e:Ext Hi H Hi' H'){a:Addr}{o:HO}(h:H a=some o)(hi:Hi a=none)(ho:∀ ps,o≠.tbl ps:=by intro ps z;cases z):H' a=some o/\Hi' a=none:=by
 refine⟨e.h.at h ho,?_⟩
 cases z:Hi' a with
 | none=>rfl
 | some u=>have:=e.n a hi (by rw[z];exact fun w=>by cases w);rw[h] at this;cases this
theorem Ext.hold{Hi H Hi' H':Hp}(e:Ext Hi H Hi' H'){a:Addr}{o:HO}(hn:H a=none)(h:H' a=some o)(hi:Hi' a=none):Ext Hi H (upd Hi' a o) H' where
 i:=e.i.trans (dG hi o)
 h:=e.h
 s:=fun b u q=>by
  by_cases z:b=a
  ·subst z;rw[aY] at q;cases q;exact h
  ·rw[bA z] at q;exact e.s _ _ q
 n:=fun b z q=>by
  by_cases w:b=a
  ·rw[w];exact hn
  ·rw[bA w] at q;exact e.n b z q
def zRS(a C:Addr):Heap->Prop:=fun h=>∃ o vs,h.get? a=some o/\o.cls=.ref C/\o.data=.fields vs
def kvT(T:List (Str×Str)):List (Key×V):=T.map fun q=>(Sum.inr q.1,V.str q.2)
def zET(K:PySem.W.Frag)(mg:Str->Option Value)(B Hi H:Hp)(o:Option (Option V)):Sl->Prop
 | .un=>True
 | .val d=>∃ v,o=some (some v)/\IsD K Hi v d
 | .own ds=>∃ a xs,o=some (some (.ref a))/\H a=some (.lst xs)/\Hi a=none/\B a=none/\IsDs K Hi xs ds
 | .exc c=>∃ a C,o=some (some (.ref a))/\H a=some (.ext (zRS a C))/\Hi a=none/\B a=none/\mg c=some (.ref C)
 | .tab T=>∃ a,o=some (some (.ref a))/\Hi a=some (.dK (kvT T))
structure Rel (K:PySem.W.Frag) (mg:Str->Option Value) (B Bi Hi H:Hp) (σ:St) (ρ:Rho):Prop where
 len:σ.length=ρ.length
 ext:Ext Bi B Hi H
 slot:∀(i:Nat)(s:Sl),ρ[i]?=some s->zET K mg B Hi H σ[i]? s
 dist:∀(i j:Nat)(a:Addr)(ds es:List D),ρ[i]?=some (.own ds)->ρ[j]?=some (.own es)->σ[i]?=some (some (.ref a))->σ[j]?=some (some (.ref a))->i=j
section
variable{K:Fg_}{mg:Str->Option Value}{B Bi Hi H Hi' H':Hp}{σ:St}{ρ:Rho}
theorem zET.ext{o:Option (Option V)}{s:Sl}(h:zET K mg B Hi H o s)(e:Ext Hi H Hi' H'):zET K mg B Hi' H' o s:=by
 cases s with
 | un=>trivial
 | val d=>obtain⟨v,q,r⟩:=h;exact⟨v,q,r.mono e.i⟩
 | own ds=>
  obtain⟨a,xs,q,h1,h2,h3,h4⟩:=h;obtain⟨e1,e2⟩:=e.out h1 h2;exact⟨a,xs,q,e1,e2,h3,h4.mono e.i⟩
 | exc c=>
  obtain⟨a,C,q,h1,h2,h3,h4⟩:=h;obtain⟨e1,e2⟩:=e.out h1 h2;exact⟨a,C,q,e1,e2,h3,h4⟩
 | tab T=>obtain⟨a,q,h1⟩:=h;exact⟨a,q,e.i _ _ h1⟩
theorem Rel.grow(R:Rel K mg B Bi Hi H σ ρ)(e:Ext Hi H Hi' H'):Rel K mg B Bi Hi' H' σ ρ:=⟨R.len,R.ext.trans e,fun i s q=>(R.slot i s q).ext e,R.dist⟩
theorem Rel.s(R:Rel K mg B Bi Hi H σ ρ):Same Hi H:=R.ext.s
theorem Rel.set{i:Nat}{v:V}{d:D}(R:Rel K mg B Bi Hi H σ ρ)(h:IsD K Hi v d):Rel K mg B Bi Hi H (σ.set i (some v)) (ρ.set i (.val d)) where
 len:=by rw[QE,QE];exact R.len
 ext:=R.ext
 slot:=fun j s q=>by
  by_cases e:i=j
  ·subst e
   by_cases hl:i<ρ.length
   ·rw[QJ hl] at q;cases q
    exact⟨v,by rw[QJ (by rw[R.len];exact hl)],h⟩
   ·rw[QA (by rw[QE];omega)] at q;cases q
  ·rw[QG e] at q ⊢
   exact R.slot j s q
 dist:=fun j k a ds es q1 q2 q3 q4=>by
  have h1:∀ {j:Nat} {ds:List D},(ρ.set i (.val d))[j]?=some (.own ds)->i≠j:=fun {j ds} q e=>by
   subst e;by_cases hl:i<ρ.length
   ·rw[QJ hl] at q;cases q
   ·rw[QA (by rw[QE];omega)] at q;cases q
  have n1:=h1 q1;have n2:=h1 q2;rw[QG n1] at q1 q3;rw[QG n2] at q2 q4;exact R.dist j k a ds es q1 q2 q3 q4
theorem Rel.setOwn{i:Nat}{a:Addr}{xs:List V}{ds:List D}(R:Rel K mg B Bi Hi H σ ρ)(e:Ext Hi H Hi' H')(hn:H a=none)(h:H' a=some (.lst xs))(hi:Hi' a=none)(hs:IsDs K Hi' xs ds):
  Rel K mg B Bi Hi' H' (σ.set i (some (.ref a))) (ρ.set i (.own ds)) where
 len:=by rw[QE,QE];exact R.len
 ext:=R.ext.trans e
 slot:=fun j s q=>by
  by_cases z:i=j
  ·subst z
   by_cases hl:i<ρ.length
   ·rw[QJ hl] at q;cases q
    exact⟨a,xs,by rw[QJ (by rw[R.len];exact hl)],h,hi,R.ext.h.none hn,hs⟩
   ·rw[QA (by rw[QE];omega)] at q;cases q
  ·rw[QG z] at q ⊢
   exact(R.slot j s q).ext e
 dist:=fun j k b es fs q1 q2 q3 q4=>by
  have h1:∀ {j:Nat} {es:List D},i≠j->ρ[j]?=some (.own es)->σ[j]?=some (some (.ref a))->False:=fun {j es} _ p1 p2=>by
   obtain⟨a',xs',q,h1,_⟩:=R.slot j _ p1;rw[p2] at q;cases q;rw[hn] at h1;cases h1
  have h2:∀ {j:Nat} {es:List D},(ρ.set i (.own ds))[j]?=some (.own es)->i<σ.length∨i≠j:=fun {j es} p=>by
   by_cases z:i=j
   ·subst z
    by_cases hl:i<ρ.length
    ·exact .inl (by rw[R.len];exact hl)
    ·rw[QA (by rw[QE];omega)] at p;cases p
   ·exact .inr z
  by_cases z1:i=j
  ·by_cases z2:i=k
   ·rw[<-z1,<-z2]
   ·exfalso
    subst z1;have hl:i<σ.length:=(h2 q1).resolve_right (fun w=>w rfl)
    rw[QJ hl] at q3;cases q3
    rw[QG z2] at q2 q4;exact h1 z2 q2 q4
  ·by_cases z2:i=k
   ·exfalso
    subst z2;have hl:i<σ.length:=(h2 q2).resolve_right (fun w=>w rfl)
    rw[QJ hl] at q4;cases q4
    rw[QG z1] at q1 q3;exact h1 z1 q1 q3
   ·rw[QG z1] at q1 q3
    rw[QG z2] at q2 q4;exact R.dist j k b es fs q1 q2 q3 q4
theorem Rel.write{i:Nat}{a:Addr}{ys:List V}{ds es:List D}(R:Rel K mg B Bi Hi H σ ρ)(e:ρ[i]?=some (.own ds))(ea:σ[i]?=some (some (.ref a)))(hs:IsDs K Hi ys es):
  Rel K mg B Bi Hi (upd H a (.lst ys)) σ (ρ.set i (.own es)):=by
 obtain⟨a',xs',q,h1,h2,h3,h4⟩:=R.slot i _ e;rw[ea] at q;cases q
 have hl:i<ρ.length:=by
  by_cases hl:i<ρ.length
  ·exact hl
  ·rw[QA (by omega)] at e;cases e
 refine⟨by rw[QE];exact R.len,⟨R.ext.i,⟨fun b o z=>?_,fun P z=>(R.ext.h.t P z).put (fun ps y=>by rw[h1] at y;cases y) (fun ob u y=>by rw[h1] at y;cases y)⟩,fun b o z=>?_,R.ext.n⟩,fun j s z=>?_,fun j k b fs gs q1 q2 q3 q4=>?_⟩
 ·rw[bA (bD z h3)];exact R.ext.h.k _ _ z
 ·rw[bA (bD z h2)];exact R.ext.s _ _ z
 ·by_cases w:i=j
  ·subst w
   rw[QJ hl] at z;cases z
   exact⟨a,ys,ea,aY,h2,h3,hs⟩
  ·rw[QG w] at z
   have S:=R.slot j s z
   cases s with
   | un=>trivial
   | val d=>exact S
   | own fs=>
    obtain⟨b,zs,p,g1,g2,g3,g4⟩:=S;have hb:b≠a:=fun c=>w (R.dist i j a ds fs e z ea (by rw[p,c]))
    exact⟨b,zs,p,by rw[bA hb];exact g1,g2,g3,g4⟩
   | exc c=>
    obtain⟨b,C,p,g1,g2,g3,g4⟩:=S;have hb:b≠a:=zOZ g1 h1 (by intro z;cases z)
    exact⟨b,C,p,by rw[bA hb];exact g1,g2,g3,g4⟩
   | tab T=>exact S
 ·have own:∀ {j:Nat} {fs:List D},(ρ.set i (.own es))[j]?=some (.own fs)->∃ gs,ρ[j]?=some (.own gs):=fun {j fs} p=>by
   by_cases w:i=j
   ·subst w;exact⟨ds,e⟩
   ·rw[QG w] at p;exact⟨fs,p⟩
  obtain⟨fs',q1'⟩:=own q1;obtain⟨gs',q2'⟩:=own q2;exact R.dist j k b fs' gs' q1' q2' q3 q4
theorem Rel.frzAt{i:Nat}(R:Rel K mg B Bi Hi H σ ρ):∃ Hi',Same Hi Hi'/\Rel K mg B Bi Hi' H σ (L3.frzAt i ρ):=by
 unfold L3.frzAt;split
 ·rename_i ds e
  obtain⟨a,xs,q,h1,h2,h3,h4⟩:=R.slot i _ e
  have hl:i<ρ.length:=by
   by_cases hl:i<ρ.length
   ·exact hl
   ·rw[QA (by omega)] at e;cases e
  have sm:Same Hi (upd Hi a (.lst xs)):=dG h2 _
  have ss:Same (upd Hi a (.lst xs)) H:=fun b u z=>by
   by_cases w:b=a
   ·subst w;rw[aY] at z;cases z;exact h1
   ·rw[bA w] at z;exact R.s _ _ z
  refine⟨upd Hi a (.lst xs),sm,by rw[QE];exact R.len,⟨R.ext.i.trans sm,R.ext.h,ss,fun b z w=>?_⟩,fun j s z=>?_,fun j k b fs gs q1 q2 q3 q4=>?_⟩
  ·by_cases c:b=a
   ·rw[c];exact h3
   ·rw[bA c] at w;exact R.ext.n b z w
  ·by_cases w:i=j
   ·subst w
    rw[QJ hl] at z;cases z
    exact⟨.ref a,q,.lst (SqL.of aY) (h4.mono sm)⟩
   ·rw[QG w] at z
    have S:=R.slot j s z
    cases s with
    | un=>trivial
    | val d=>obtain⟨v,p,r⟩:=S;exact⟨v,p,r.mono sm⟩
    | own fs=>
     obtain⟨b,zs,p,g1,g2,g3,g4⟩:=S;have hb:b≠a:=fun c=>w (R.dist i j a ds fs e z q (by rw[p,c]))
     exact⟨b,zs,p,g1,by rw[bA hb];exact g2,g3,g4.mono sm⟩
    | exc c=>
     obtain⟨b,C,p,g1,g2,g3,g4⟩:=S;have hb:b≠a:=zOZ g1 h1 (by intro z;cases z)
     exact⟨b,C,p,g1,by rw[bA hb];exact g2,g3,g4⟩
    | tab T=>obtain⟨b,p,g1⟩:=S;exact⟨b,p,sm _ _ g1⟩
  ·have own:∀ {j:Nat} {fs:List D},(ρ.set i (.val (.lst ds)))[j]?=some (.own fs)->ρ[j]?=some (.own fs):=fun {j fs} p=>by
    by_cases w:i=j
    ·subst w;rw[QJ hl] at p;cases p
    ·rw[QG w] at p;exact p
   exact R.dist j k b fs gs (own q1) (own q2) q3 q4
 ·exact⟨Hi,Same.refl _,R⟩
end
end L3
namespace L3
open PySem PySem.Spec PyProof.Rows L2
section
variable{K:Fg_}{mg:Str->Option Value}{B Bi Hi H Hi' H':Hp}{σ:St}{ρ:Rho}
theorem Rel.frz(R:Rel K mg B Bi Hi H σ ρ):∃ Hf,Same Hi Hf/\Rel K mg B Bi Hf H σ (ρ.map Sl.frz)/\∀ b,Hi b=none->Hf b≠none->∃ xs,Hf b=some (.lst xs):=by
 let own:Addr->Prop:=fun b=>∃(i:Nat)(ds:List D),ρ[i]?=some (.own ds)/\σ[i]?=some (some (.ref b))
 have dec:∀ b,Decidable (own b):=fun b=>Classical.propDecidable _
 let Hf:Hp:=fun b=>match Hi b with
  | some o=>some o
  | none=>if own b then H b else none
 have hf1:∀ b o,Hi b=some o->Hf b=some o:=fun b o e=>by show(match Hi b with | some o=>some o | none=>if own b then H b else none)=_;rw[e]
 have hf2:∀ b,Hi b=none->own b->Hf b=H b:=fun b e z=>by show(match Hi b with | some o=>some o | none=>if own b then H b else none)=_;rw[e];exact if_pos z
 have hf3:∀ b,Hi b=none->¬ own b->Hf b=none:=fun b e z=>by show(match Hi b with | some o=>some o | none=>if own b then H b else none)=_;rw[e];exact if_neg z
 have lst:∀ b,own b->∃ xs,H b=some (.lst xs)/\Hi b=none/\B b=none:=fun b ⟨i,ds,e1,e2⟩=>by
  obtain⟨a,xs,q,h1,h2,h3,h4⟩:=R.slot i _ e1;rw[e2] at q;cases q
  exact⟨xs,h1,h2,h3⟩
 have ss:Same Hf H:=fun b o z=>by
  cases q:Hi b with
  | some u=>rw[hf1 b u q] at z;cases z;exact R.s _ _ q
  | none=>
   by_cases w:own b
   ·rw[hf2 b q w] at z;exact z
   ·rw[hf3 b q w] at z;cases z
 refine⟨Hf,hf1,⟨by rw[Qe];exact R.len,⟨R.ext.i.trans hf1,R.ext.h,ss,fun b z w=>?_⟩,fun j s z=>?_,fun j k b fs gs q1 q2 q3 q4=>?_⟩,fun b z w=>?_⟩
 ·cases q:Hi b with
  | some u=>exact R.ext.n b z (by rw[q];exact fun c=>by cases c)
  | none=>
   by_cases c:own b
   ·exact(lst b c).choose_spec.2.2
   ·exact absurd (hf3 b q c) w
 ·rw[Qr] at z
  cases e:ρ[j]? with
  | none=>rw[e] at z;cases z
  | some t=>
   rw[e] at z;cases z;have S:=R.slot j t e
   cases t with
   | un=>trivial
   | val d=>obtain⟨v,p,r⟩:=S;exact⟨v,p,r.mono hf1⟩
   | own ds=>
    obtain⟨a,xs,q,h1,h2,h3,h4⟩:=S;exact⟨.ref a,q,.lst (SqL.of (by rw[hf2 a h2 ⟨j,ds,e,q⟩];exact h1)) (h4.mono hf1)⟩
   | exc c=>
    obtain⟨a,C,q,h1,h2,h3,h4⟩:=S;refine⟨a,C,q,h1,?_,h3,h4⟩
    refine hf3 a h2 fun c=>?_
    obtain⟨xs,g,_⟩:=lst a c;rw[h1] at g;cases g
   | tab T=>obtain⟨a,q,h1⟩:=S;exact⟨a,q,hf1 _ _ h1⟩
 ·exfalso
  rw[Qr] at q1
  cases e:ρ[j]? with
  | none=>rw[e] at q1;cases q1
  | some t=>rw[e] at q1;cases t<;>cases q1
 ·by_cases c:own b
  ·obtain⟨xs,g,_⟩:=lst b c
   exact⟨xs,by rw[hf2 b z c];exact g⟩
  ·exact absurd (hf3 b z c) w
theorem Ext.thaw{Hf:Hp}(s:Same Hi Hf)(fl:∀ b,Hi b=none->Hf b≠none->∃ xs,Hf b=some (.lst xs))(hs:Same Hf H)(e:Ext Hf H Hi' H'):
  ∃ Ht,Ext Hi H Ht H'/\(∀ b xs,Rd Hi' b (.tup xs)->Rd Ht b (.tup xs))/\Same Ht Hi'/\∀ b,Ht b=none->Hi' b=none∨∃ xs,H b=some (.lst xs):=by
 have dec:∀ b,Decidable (Hi b=none/\Hf b≠none):=fun b=>Classical.propDecidable _
 let Ht:Hp:=fun b=>if Hi b=none/\Hf b≠none then none else Hi' b
 have t1:∀ b,¬ (Hi b=none/\Hf b≠none)->Ht b=Hi' b:=fun b z=>if_neg z
 have t2:∀ b,(Hi b=none/\Hf b≠none)->Ht b=none:=fun b z=>if_pos z
 have tt:Same Ht Hi':=fun b o z=>by
  by_cases w:Hi b=none/\Hf b≠none
  ·rw[t2 b w] at z;cases z
  ·rw[t1 b w] at z;exact z
 refine⟨Ht,⟨fun b o z=>?_,e.h,tt.trans e.s,fun b z w=>?_⟩,fun b xs r=>?_,tt,fun b z=>?_⟩
 ·rw[t1 b (fun w=>by rw[z] at w;cases w.1)];exact e.i _ _ (s _ _ z)
 ·by_cases c:Hi b=none/\Hf b≠none
  ·exact absurd (t2 b c) w
  ·rw[t1 b c] at w
   have:Hf b=none:=by
    cases q:Hf b with
    | none=>rfl
    | some u=>exact absurd ⟨z,by rw[q];exact fun c=>by cases c⟩ c
   exact e.n b this w
 ·have nl:¬ (Hi b=none/\Hf b≠none):=fun w=>by
   obtain⟨ys,g⟩:=fl b w.1 w.2;have g':=e.i _ _ g;rcases r with r | ⟨o,r⟩<;>(rw[g'] at r;cases r)
  rcases r with r | ⟨o,r⟩
  ·exact .inl (by rw[t1 b nl];exact r)
  ·exact .inr ⟨o,by rw[t1 b nl];exact r⟩
 ·by_cases c:Hi b=none/\Hf b≠none
  ·obtain⟨ys,g⟩:=fl b c.1 c.2
   exact .inr ⟨ys,hs _ _ g⟩
  ·exact .inl (by rw[t1 b c] at z;exact z)
end
structure Gx where
 B:Hp
 Bi:Hp
 E:Str->Hp->Prop
abbrev lU(X:Cx)(G:Gx)(Hi H:Hp)(σ:St)(ρ:Rho):Prop:=Rel X.K X.mg G.B G.Bi Hi H σ ρ
def Out(G:Gx)(Hi H:Hp){α:Type}(r:Res α)(k:α->Hp->Hp->Prop):Prop:=match r with
 | .ok a=>∀ Hi' H',Ext Hi H Hi' H'->k a Hi' H'
 | .err c=>∀ Hi' H',Ext Hi H Hi' H'->G.E c H'
 | .no=>False
theorem Out.bind{G:Gx}{Hi H:Hp}{α β:Type}{r:Res α}{f:α->Res β}{k:β->Hp->Hp->Prop}(h:Out G Hi H (r.bind f) k):
  Out G Hi H r fun a Hi' H'=>Out G Hi' H' (f a) k:=by
 cases r with
 | no=>exact h
 | err c=>exact h
 | ok a=>
  intro Hi1 H1 e;have h':Out G Hi H (f a) k:=h;show Out G Hi1 H1 (f a) k
  cases q:f a with
  | no=>rw[q] at h';exact h'
  | err c=>rw[q] at h';exact fun Hi2 H2 e2=>h' _ _ (e.trans e2)
  | ok b=>rw[q] at h';exact fun Hi2 H2 e2=>h' _ _ (e.trans e2)
theorem Out.imp{G:Gx}{Hi H:Hp}{α:Type}{r:Res α}{k k':α->Hp->Hp->Prop}(h:Out G Hi H r k)(f:∀ a Hi' H',Ext Hi H Hi' H'->k a Hi' H'->k' a Hi' H'):Out G Hi H r k':=by
 cases r with
 | no=>exact h
 | err c=>exact h
 | ok a=>exact fun Hi1 H1 e=>f a Hi1 H1 e (h Hi1 H1 e)
theorem Out.here{G:Gx}{Hi H:Hp}{α:Type}{a:α}{k:α->Hp->Hp->Prop}(h:Out G Hi H (.ok a) k)(s:Same Hi H):k a Hi H:=h Hi H (Ext.refl s)
def tD(X:Cx)(G:Gx)(f:Ev):TE:=fun σ H Q=>∃ ρ Hi,lU X G Hi H σ ρ/\Out G Hi H (f ρ) fun d Hi' H'=>∀ v,IsD X.K Hi' v d->Q v H'
def zLk(K:PySem.W.Frag)(H Hi' H':Hp)(a:Addr)(ds:List D):Prop:=H a=none/\Hi' a=none/\∃ xs,H' a=some (.lst xs)/\IsDs K Hi' xs ds
def tF(X:Cx)(G:Gx)(f:Fv):TE:=fun σ H Q=>∃ ρ Hi,lU X G Hi H σ ρ/\Out G Hi H (f ρ) fun ds Hi' H'=>∀ a,zLk X.K H Hi' H' a ds->Q (.ref a) H'
def tTb(X:Cx)(G:Gx)(f:Tv):TT:=fun σ H Q=>∃ ρ Hi,lU X G Hi H σ ρ/\Out G Hi H (f ρ) fun b _ H'=>Q b H'
def tAs(X:Cx)(G:Gx)(f:Fv):TA:=fun σ H Q=>∃ ρ Hi,lU X G Hi H σ ρ/\Out G Hi H (f ρ) fun ds Hi' H'=>∀ vs,IsDs X.K Hi' vs ds->Q vs H'
def Fin(X:Cx)(G:Gx)(Hi:Hp)(E:Ends)(r:Res Fl):Prop:=match r with
 | .ok (.nx ρ')=>∀ σ' Hi' H',Same Hi Hi'->lU X G Hi' H' σ' ρ'->E.nx σ' H'
 | .ok (.brk ρ')=>∀ σ' Hi' H',Same Hi Hi'->lU X G Hi' H' σ' ρ'->E.bk σ' H'
 | .ok (.ctn ρ')=>∀ σ' Hi' H',Same Hi Hi'->lU X G Hi' H' σ' ρ'->E.ct σ' H'
 | .ok (.ret (.v d))=>∀ v Hi' H',Ext G.Bi G.B Hi' H'->IsD X.K Hi' v d->E.rt v H'
 | .ok (.ret (.f ds))=>∀ a Hi' H',Ext G.Bi G.B Hi' H'->zLk X.K G.B Hi' H' a ds->E.rt (.ref a) H'
 | .err c=>∀ Hi' H',Ext G.Bi G.B Hi' H'->G.E c H'
 | .no=>False
theorem Fin.mono{X:Cx}{G:Gx}{Hi Hi':Hp}{E:Ends}{r:Res Fl}(h:Fin X G Hi E r)(s:Same Hi Hi'):Fin X G Hi' E r:=by
 cases r with
 | no=>exact h
 | err c=>exact h
 | ok f=>
  cases f with
  | nx ρ=>exact fun σ' Hi2 H2 s2=>h σ' Hi2 H2 (s.trans s2)
  | brk ρ=>exact fun σ' Hi2 H2 s2=>h σ' Hi2 H2 (s.trans s2)
  | ctn ρ=>exact fun σ' Hi2 H2 s2=>h σ' Hi2 H2 (s.trans s2)
  | ret r=>cases r<;>exact h
def tS(X:Cx)(G:Gx)(f:Sv):TS:=fun E σ H=>∃ ρ Hi,lU X G Hi H σ ρ/\Fin X G Hi E (f ρ)
@[irreducible] def PEd (X:Cx) (G:Gx) (e:Expr) (f:Ev):Prop:=PE X e (tD X G f)
unseal PEd
@[irreducible] def PEf (X:Cx) (G:Gx) (e:Expr) (f:Fv):Prop:=PE X e (tF X G f)
unseal PEf
@[irreducible] def PTd (X:Cx) (G:Gx) (e:Expr) (f:Tv):Prop:=PT X e (tTb X G f)
unseal PTd
@[irreducible] def PWd (X:Cx) (G:Gx) (e:Expr) (f:Tv):Prop:=PW X e (tTb X G f)
unseal PWd
@[irreducible] def PAd (X:Cx) (G:Gx) (es:List Expr) (f:Fv):Prop:=PA X es (tAs X G f)
unseal PAd
@[irreducible] def PSd (X:Cx) (G:Gx) (s:Stmt) (f:Sv):Prop:=PS X s (tS X G f)
unseal PSd
@[irreducible] def fB (X:Cx) (G:Gx) (s:List Stmt) (f:Sv):Prop:=PSs X s (tS X G f)
unseal fB
theorem PE.wk{X:Cx}{e:Expr}{t t':TE}(h:PE X e t)(w:∀ σ H Q,t' σ H Q->t σ H Q):PE X e t':=fun pins s σ H Q I q=>h pins s σ H Q I (w σ H Q q)
theorem PT.wk{X:Cx}{e:Expr}{t t':TT}(h:PT X e t)(w:∀ σ H Q,t' σ H Q->t σ H Q):PT X e t':=fun pins s σ H Q I q=>h pins s σ H Q I (w σ H Q q)
theorem PW.wk{X:Cx}{e:Expr}{t t':TT}(h:PW X e t)(w:∀ σ H Q,t' σ H Q->t σ H Q):PW X e t':=fun wh pins s σ H Q I q=>h wh pins s σ H Q I (w σ H Q q)
theorem PA.wk{X:Cx}{es:List Expr}{t t':TA}(h:PA X es t)(w:∀ σ H Q,t' σ H Q->t σ H Q):PA X es t':=fun pos pins s σ H Q I q=>h pos pins s σ H Q I (w σ H Q q)
theorem PS.wk{X:Cx}{s:Stmt}{t t':TS}(h:PS X s t)(w:∀ E σ H,t' E σ H->t E σ H):PS X s t':=fun pins s σ H E I q=>h pins s σ H E I (w E σ H q)
theorem PSs.wk{X:Cx}{s:List Stmt}{t t':TS}(h:PSs X s t)(w:∀ E σ H,t' E σ H->t E σ H):PSs X s t':=fun pins s σ H E I q=>h pins s σ H E I (w E σ H q)
section
variable{X:Cx}{G:Gx}{a b e:Expr}{es:List Expr}{pos:Pos}{f g:Ev}
theorem zQr(i:Nat)(h:PE X e (zFO i)):PEd X G e (aG i):=PE.wk h fun σ H Q q=>by
 obtain⟨ρ,Hi,R,o⟩:=q;unfold aG at o
 cases z:ρ[i]? with
 | none=>rw[z] at o;exact o.elim
 | some s=>
  rw[z] at o
  cases s with
  | val d=>
   obtain⟨v,p,r⟩:=R.slot i _ z;exact⟨v,p,o.here R.s v r⟩
  | un=>exact o.elim
  | own ds=>exact o.elim
  | exc c=>exact o.elim
  | tab T=>exact o.elim
theorem kQ{v:V}{d:D}(h:PE X e (tC v))(r:∀ H,IsD X.K H v d):PEd X G e (eC d):=PE.wk h fun σ H Q q=>by
 obtain⟨ρ,Hi,R,o⟩:=q;exact o.here R.s v (r Hi)
theorem zDT{Hi H:Hp}{σ:St}{ρ:Rho}{β:Type}{k:D->Res β}{k':β->Hp->Hp->Prop}{Q:VK}(R:lU X G Hi H σ ρ)(o:Out G Hi H ((f ρ).bind k) k')
  (w:∀ v d Hi' H',Ext Hi H Hi' H'->lU X G Hi' H' σ ρ->IsD X.K Hi' v d->Out G Hi' H' (k d) k'->Q v H'):tD X G f σ H Q:=
 ⟨ρ,Hi,R,o.bind.imp fun d Hi' H' e q v r=>w v d Hi' H' e (R.grow e) r q⟩
def OpK(X:Cx)(r:R2)(o:Op2):Prop:=(∀ a b c,o a b≠.err c)/\∀(Hi H:Hp)(x y:V)(a b d:D)(Q:VK),Same Hi H->IsD X.K Hi x a->IsD X.K Hi y b->o a b=.ok d->
 (∀ v Hi' H',Ext Hi H Hi' H'->IsD X.K Hi' v d->Q v H')->r x y H Q
theorem op2{r:R2}{o:Op2}(k:OpK X r o):∀ σ H Q,tD X G (eOp o f g) σ H Q->tOp r (tD X G f) (tD X G g) σ H Q:=fun σ H Q q=>by
 obtain⟨ρ,Hi,R,ou⟩:=q;refine zDT R ou fun v d Hi1 H1 e1 R1 r1 o1=>?_
 refine zDT R1 o1 fun w d' Hi2 H2 e2 R2 r2 o2=>?_
 cases z:o d d' with
 | no=>rw[z] at o2;exact o2.elim
 | err c=>exact absurd z (k.1 d d' c)
 | ok u=>
  rw[z] at o2;exact k.2 Hi2 H2 v w d d' u Q R2.s (r1.mono e2.i) r2 z fun x Hi3 H3 e3 r3=>o2 Hi3 H3 e3 x r3
theorem aU{op:Operator}{r:R2}{o:Op2}(ho:OpR X (binaryOp op) r)(k:OpK X r o)(ha:PEd X G a f)(hb:PEd X G b g):PEd X G (.BinOp a op b pos) (eOp o f g):=PE.wk (zJF ho ha hb) (op2 k)
theorem oM{op:CmpOp}{r:R2}{o:Op2}(ho:OpR X (compareOp op) r)(k:OpK X r o)(ha:PEd X G a f)(hb:PEd X G b g)(hm:behindInMarks op b=false):PEd X G (.Compare a [op] [b] pos) (eOp o f g):=PE.wk (zOk ho ha hb hm) (op2 k)
theorem aT{r:R2}{o:Op2}(ho:IxR X r)(k:OpK X r o)(ha:PEd X G a f)(hb:PEd X G b g)(hs:zEC b):PEd X G (.Subscript a b pos) (eOp o f g):=PE.wk (zHb ho ha hb hs) (op2 k)
theorem tst{op:CmpOp}{r:R2}{o:Op2}(ho:OpR X (compareOp op) r)(k:OpK X r o)(ha:PEd X G a f)(hb:PEd X G b g)(hm:behindInMarks op b=false):PTd X G (.Compare a [op] [b] pos) (dD (eOp o f g)):=
 PT.wk (zJp ho ha hb hm) fun σ H Q q=>by
  obtain⟨ρ,Hi,R,ou⟩:=q;refine op2 k σ H _ ⟨ρ,Hi,R,ou.bind.imp fun d Hi' H' e o v r=>?_⟩
  cases d with
  | bl c=>rw[r.blI];exact⟨c,rfl,o.here e.s⟩
  | _=>exact o.elim
theorem sX(h:PEd X G a f)(he:∀ whole,isTrue a X.env whole=(do let v <-whole;standAt a.pos;holding [v] (truthy v)):=by intro _;rfl):PTd X G a (dD f):=PT.wk (zQj h he) fun σ H Q q=>by
 obtain⟨ρ,Hi,R,ou⟩:=q;refine⟨ρ,Hi,R,ou.bind.imp fun d Hi' H' e o v r=>?_⟩
 cases d with
 | bl c=>rw[r.blI];exact⟨c,rfl,o.here e.s⟩
 | _=>exact o.elim
variable{t u:Tv}
theorem zRd{Hi H:Hp}{σ:St}{ρ:Rho}{β:Type}{k:Bool->Res β}{k':β->Hp->Hp->Prop}{Q:Bool->Hp->Prop}(R:lU X G Hi H σ ρ)(o:Out G Hi H ((t ρ).bind k) k')
  (w:∀ c Hi' H',Ext Hi H Hi' H'->lU X G Hi' H' σ ρ->Out G Hi' H' (k c) k'->Q c H'):tTb X G t σ H Q:=
 ⟨ρ,Hi,R,o.bind.imp fun d Hi' H' e q=>w d Hi' H' e (R.grow e) q⟩
theorem zHh(h:PTd X G a t):PTd X G (.UnaryOp .Not a pos) (qU t):=PT.wk (zQV h) fun σ H Q q=>by
 obtain⟨ρ,Hi,R,ou⟩:=q;exact zRd R ou fun c Hi1 H1 e1 R1 o1=>o1.here R1.s
theorem yZ(h:PTd X G a t):PWd X G (.BoolOp .And [a] pos) t:=zOx h
theorem yJ(h:PTd X G a t):PWd X G (.BoolOp .Or [a] pos) t:=zQI h
theorem zGL{rest:List Expr}(ha:PTd X G a t)(hb:PWd X G (.BoolOp .And (b::rest) pos) u):PWd X G (.BoolOp .And (a::b::rest) pos) (zAf t u):=PW.wk (zOV ha hb) fun σ H Q q=>by
 obtain⟨ρ,Hi,R,ou⟩:=q;refine zRd R ou fun c Hi1 H1 e1 R1 o1=>?_
 cases c with
 | true=>exact⟨ρ,Hi1,R1,o1⟩
 | false=>exact o1.here R1.s
theorem zIb{rest:List Expr}(ha:PTd X G a t)(hb:PWd X G (.BoolOp .Or (b::rest) pos) u):PWd X G (.BoolOp .Or (a::b::rest) pos) (zGi t u):=PW.wk (zRF ha hb) fun σ H Q q=>by
 obtain⟨ρ,Hi,R,ou⟩:=q;refine zRd R ou fun c Hi1 H1 e1 R1 o1=>?_
 cases c with
 | true=>exact o1.here R1.s
 | false=>exact⟨ρ,Hi1,R1,o1⟩
theorem PWd.pt{e:Expr}(h:PWd X G e t):PTd X G e t:=PW.pt h
theorem zMd{op}(h:PEd X G a f):PEd X G (.BoolOp op [a] pos) f:=zQF h
theorem zQY{rest:List Expr}(ha:PEd X G a f)(hb:PEd X G (.BoolOp .And (b::rest) pos) g):PEd X G (.BoolOp .And (a::b::rest) pos) (zRe f g):=PE.wk (zPz ha hb) fun σ H Q q=>by
 obtain⟨ρ,Hi,R,ou⟩:=q;refine zDT R ou fun v d Hi1 H1 e1 R1 r1 o1=>?_
 cases d with
 | bl c=>
  refine⟨c,r1.blI,?_⟩
  cases c with
  | true=>exact⟨ρ,Hi1,R1,o1⟩
  | false=>exact o1.here R1.s _ (.bl false)
 | _=>exact o1.elim
theorem zRB{rest:List Expr}(ha:PEd X G a f)(hb:PEd X G (.BoolOp .Or (b::rest) pos) g):PEd X G (.BoolOp .Or (a::b::rest) pos) (eOr f g):=PE.wk (zSa ha hb) fun σ H Q q=>by
 obtain⟨ρ,Hi,R,ou⟩:=q;refine zDT R ou fun v d Hi1 H1 e1 R1 r1 o1=>?_
 cases d with
 | bl c=>
  refine⟨c,r1.blI,?_⟩
  cases c with
  | true=>exact o1.here R1.s _ (.bl true)
  | false=>exact⟨ρ,Hi1,R1,o1⟩
 | _=>exact o1.elim
theorem lY(ha:PEd X G a f):PEd X G (.UnaryOp .USub a pos) (eUn zB f):=PE.wk (zRR zQT ha) fun σ H Q q=>by
 obtain⟨ρ,Hi,R,ou⟩:=q;refine zDT R ou fun v d Hi1 H1 e1 R1 r1 o1=>?_
 cases d with
 | int c=>exact⟨c,r1.intI,o1.here R1.s _ (.int _)⟩
 | _=>exact o1.elim
theorem zNx{c:Expr}(hc:PTd X G c t)(ha:PEd X G a f)(hb:PEd X G b g):PEd X G (.IfExp c a b pos) (eIf t f g):=PE.wk (zKs hc ha hb) fun σ H Q q=>by
 obtain⟨ρ,Hi,R,ou⟩:=q;refine zRd R ou fun c Hi1 H1 e1 R1 o1=>?_
 cases c with
 | true=>exact⟨ρ,Hi1,R1,o1⟩
 | false=>exact⟨ρ,Hi1,R1,o1⟩
variable{fs:Fv}
theorem aE:PAd X G [] aNil:=PA.wk tH fun σ H Q q=>by
 obtain⟨ρ,Hi,R,ou⟩:=q;exact ou.here R.s [] .nil
theorem aA(ha:PEd X G e f)(hr:PAd X G es fs)(hs:starEach (e::es) X.env=(false,eval e X.env)::starEach es X.env:=by rfl):PAd X G (e::es) (aD f fs):=PA.wk (lK ha hr hs) fun σ H Q q=>by
 obtain⟨ρ,Hi,R,ou⟩:=q;refine zDT R ou fun v d Hi1 H1 e1 R1 r1 o1=>?_
 refine⟨ρ,Hi1,R1,o1.bind.imp fun ds Hi2 H2 e2 o2 vs rs=>?_⟩
 exact o2.here e2.s _ (.cons (r1.mono e2.i) rs)
theorem zKh{Hi H:Hp}{σ:St}{ρ:Rho}{β:Type}{k:List D->Res β}{k':β->Hp->Hp->Prop}{Q:List V->Hp->Prop}(R:lU X G Hi H σ ρ)(o:Out G Hi H ((fs ρ).bind k) k')
  (w:∀ vs ds Hi' H',Ext Hi H Hi' H'->lU X G Hi' H' σ ρ->IsDs X.K Hi' vs ds->Out G Hi' H' (k ds) k'->Q vs H'):tAs X G fs σ H Q:=
 ⟨ρ,Hi,R,o.bind.imp fun d Hi' H' e q v r=>w v d Hi' H' e (R.grow e) r q⟩
theorem eT{x1}(h:PAd X G es fs):PEd X G (.Tuple es x1 pos) (uK fs):=PE.wk (zPp h) fun σ H Q q=>by
 obtain⟨ρ,Hi,R,ou⟩:=q;refine zKh R ou fun vs ds Hi1 H1 e1 R1 r1 o1=>?_
 by_cases hz:ds.length<=16777216
 ·rw[if_pos hz] at o1
  refine⟨by rw[r1.length];exact hz,fun p hp=>?_⟩
  exact o1 _ _ (Ext.new R1.s hp) (.ref p) (.tup (SqT.of aY) (r1.mono (dG (R1.s.none hp) _)))
 ·rw[if_neg hz] at o1;exact o1.elim
theorem cI(h:PAd X G es fs):PEf X G (.List es pos) (mK fs):=PE.wk (zOT h) fun σ H Q q=>by
 obtain⟨ρ,Hi,R,ou⟩:=q;refine zKh R ou fun vs ds Hi1 H1 e1 R1 r1 o1=>?_
 by_cases hz:ds.length<=16777216
 ·rw[if_pos hz] at o1
  refine⟨by rw[r1.length];exact hz,fun p hp=>?_⟩
  exact o1 _ _ (Ext.newF R1.s hp) p ⟨e1.h.none hp,R1.s.none hp,vs,aY,r1⟩
 ·rw[if_neg hz] at o1;exact o1.elim
theorem PEf.d(h:PEf X G e fs):PEd X G e (eF fs):=PE.wk h fun σ H Q q=>by
 obtain⟨ρ,Hi,R,ou⟩:=q;refine⟨ρ,Hi,R,?_⟩
 cases z:fs ρ with
 | no=>unfold eF at ou;rw[z] at ou;exact ou
 | err c=>unfold eF at ou;rw[z] at ou;exact ou
 | ok ds=>
  unfold eF at ou;rw[z] at ou
  intro Hi1 H1 e1 a n;obtain⟨n1,n2,xs,n3,n4⟩:=n;have ou':∀ Hi' H',Ext Hi H Hi' H'->∀ v,IsD X.K Hi' v (.lst ds)->Q v H':=ou;exact ou' _ _ (e1.hold n1 n3 n2) (.ref a) (.lst (SqL.of aY) (n4.mono (dG n2 _)))
theorem PEd.frz(h:PEd X G e f):PEd X G e (zPP f):=PE.wk h fun σ H Q q=>by
 obtain⟨ρ,Hi,R,ou⟩:=q;obtain⟨Hf,s1,R1,fl⟩:=R.frz;refine⟨ρ.map Sl.frz,Hf,R1,?_⟩
 unfold zPP at ou
 cases z:f (ρ.map Sl.frz) with
 | no=>rw[z] at ou;exact ou
 | err c=>
  rw[z] at ou;intro Hi1 H1 e1;have ou':∀ Hi' H',Ext Hi H Hi' H'->G.E c H':=ou;obtain⟨Ht,e2,k,s2,n⟩:=Ext.thaw s1 fl R1.s e1;exact ou' Ht H1 e2
 | ok d=>
  rw[z] at ou;by_cases hz:noL d=true
  ·have ou':Out G Hi H (if noL d=true then Res.ok d else .no) _:=ou
   rw[if_pos hz] at ou';intro Hi1 H1 e1 v r;obtain⟨Ht,e2,k,s2,n⟩:=Ext.thaw s1 fl R1.s e1;exact ou' Ht H1 e2 v (r.noL k hz)
  ·have ou':Out G Hi H (if noL d=true then Res.ok d else .no) _:=ou
   rw[if_neg hz] at ou';exact ou'.elim
end
end L3
namespace L3
open PySem PySem.Spec PyProof.Rows L2
unseal PEd PEf PTd PWd PAd PSd fB
section
variable{X:Cx}{G:Gx}{a b e:Expr}{es:List Expr}{pos:Pos}{f g:Ev}{fs:Fv}{t u:Tv}
theorem PEf.frz(h:PEf X G e fs):PEf X G e (zOu fs):=PE.wk h fun σ H Q q=>by
 obtain⟨ρ,Hi,R,ou⟩:=q;obtain⟨Hf,s1,R1,fl⟩:=R.frz;refine⟨ρ.map Sl.frz,Hf,R1,?_⟩
 unfold zOu at ou
 cases z:fs (ρ.map Sl.frz) with
 | no=>rw[z] at ou;exact ou
 | err c=>
  rw[z] at ou;intro Hi1 H1 e1;have ou':∀ Hi' H',Ext Hi H Hi' H'->G.E c H':=ou;obtain⟨Ht,e2,k,s2,n⟩:=Ext.thaw s1 fl R1.s e1;exact ou' Ht H1 e2
 | ok ds=>
  rw[z] at ou;have ou':Out G Hi H (if noLs ds=true then Res.ok ds else .no) _:=ou;by_cases hz:noLs ds=true
  ·rw[if_pos hz] at ou'
   intro Hi1 H1 e1 a n;obtain⟨n1,n2,xs,n3,n4⟩:=n;obtain⟨Ht,e2,k,s2,_⟩:=Ext.thaw s1 fl R1.s e1;exact ou' Ht H1 e2 a ⟨n1,s2.none n2,xs,n3,n4.noL k hz⟩
  ·rw[if_neg hz] at ou';exact ou'.elim
theorem OpR.or{o:Value->Value->Sem Value}{r r':R2}(h:OpR X o r)(h':OpR X o r'):OpR X o (fun x y H Q=>r x y H Q∨r' x y H Q):=by
 intro pins s σ H x y v u Q I rx ry q;rcases q with q | q
 ·exact h pins s σ H x y v u Q I rx ry q
 ·exact h' pins s σ H x y v u Q I rx ry q
theorem zQQ{o:Op2}{h:Int->Int->Int}(hi:∀ i j,o (.int i) (.int j)=.ok (.int (h i j)))(hn:∀ a b d,o a b=.ok d->∃ i j,a=.int i/\b=.int j)(he:∀ a b c,o a b≠.err c):OpK X (rI0 fun i j=>.int (h i j)) o:=
 ⟨he,fun Hi H x y a b d Q s r1 r2 z q=>by
  obtain⟨i,j,rfl,rfl⟩:=hn a b d z;rw[hi] at z;cases z
  exact⟨i,j,r1.intI,r2.intI,q _ Hi H (Ext.refl s) (.int _)⟩⟩
theorem zLT{o:Op2}{h:Int->Int->Bool}(hi:∀ i j,o (.int i) (.int j)=.ok (.bl (h i j)))(hn:∀ a b d,o a b=.ok d->∃ i j,a=.int i/\b=.int j)(he:∀ a b c,o a b≠.err c):OpK X (rI0 fun i j=>.bl (h i j)) o:=
 ⟨he,fun Hi H x y a b d Q s r1 r2 z q=>by
  obtain⟨i,j,rfl,rfl⟩:=hn a b d z;rw[hi] at z;cases z
  exact⟨i,j,r1.intI,r2.intI,q _ Hi H (Ext.refl s) (.bl _)⟩⟩
theorem pN:OpK X (rI0 fun i j=>.int (i-j)) tM:=zQQ (fun _ _=>rfl) (fun a b d z=>by unfold tM at z;split at z<;>first | exact⟨_,_,rfl,rfl⟩ | cases z) (fun a b c z=>by unfold tM at z;split at z<;>cases z)
theorem zEs:OpK X (rI0 fun i j=>.bl (decide (i<j))) oLt:=zLT (fun _ _=>rfl) (fun a b d z=>by unfold oLt at z;split at z<;>first | exact⟨_,_,rfl,rfl⟩ | cases z) (fun a b c z=>by unfold oLt at z;split at z<;>cases z)
theorem zPH:OpK X (rI0 fun i j=>.bl (decide (j<i))) oGt:=zLT (fun _ _=>rfl) (fun a b d z=>by unfold oGt at z;split at z<;>first | exact⟨_,_,rfl,rfl⟩ | cases z) (fun a b c z=>by unfold oGt at z;split at z<;>cases z)
theorem zLi{o:Op2}{C:Int->Int->Prop}{h:Int->Int->Int}(hn:∀ a b d,o a b=.ok d->∃ i j,a=.int i/\b=.int j/\C i j/\d=.int (h i j))(he:∀ a b c,o a b≠.err c):OpK X (rI C fun i j=>.int (h i j)) o:=
 ⟨he,fun Hi H x y a b d Q s r1 r2 z q=>by
  obtain⟨i,j,rfl,rfl,hc,rfl⟩:=hn a b d z
  exact⟨i,j,r1.intI,r2.intI,hc,q _ Hi H (Ext.refl s) (.int _)⟩⟩
def zPi(i j:Int):Prop:=kI i j=true
theorem bV:OpR X (binaryOp .Mult) (rI zPi fun i j=>.int (i*j)):=opI fun i j _ _ _ _ _ hc q=>by
 have hc':kI i j=true:=hc;unfold kI at hc';simp only[VM,Va,decide_eq_true_eq] at hc';rcases hc' with (⟨h1,h2⟩ | ⟨h1,h2⟩) | h
 ·exact mul_int q (zRk.ok (.inl ⟨h1,h2⟩))
 ·exact mul_int q (zRk.ok (.inr ⟨h1,h2⟩))
 ·exact mul_int q (PySem.IntMulOk.of_le (XW.mpr (zNi i)) (XW.mpr (zNi j)) h)
def zQG(_ j:Int):Prop:=mH j=true
theorem cS:OpR X (binaryOp .FloorDiv) (rI zQG fun i j=>.int (i.fdiv j)):=opI fun i j _ _ _ _ _ hc q=>by
 have hc':mH j=true:=hc;unfold mH at hc';simp only[Va,decide_eq_true_eq] at hc';refine floordiv_int hc'.1 q (.inl (PyProof.noPylong_of_log2 ?_))
 have h2:=hc'.2;unfold nb at h2;omega
def zOR(i j:Int):Prop:=sR i j=true
theorem zBe:OpR X (binaryOp .Pow) (rI zOR fun i j=>.int (i^j.toNat)):=opI fun i j _ _ _ _ _ hc q=>by
 have hc':sR i j=true:=hc;unfold sR at hc';simp only[Va,decide_eq_true_eq] at hc';refine pow_int hc'.1 (Vj (Yr ?_ hc'.1) hc'.2) q
 have:=XW.mpr (zNi i)
 omega
theorem gQ:OpK X (rI zPi fun i j=>.int (i*j)) oV:=zLi (fun a b d z=>by
 unfold oV at z;split at z
 case h_2=>cases z
 rename_i i j
 have z':(if kI i j=true then Res.ok (D.int (i*j)) else .no)=.ok d:=z;by_cases h:kI i j=true
 ·rw[if_pos h] at z';cases z';exact⟨i,j,rfl,rfl,h,rfl⟩
 ·rw[if_neg h] at z';cases z') (fun a b c z=>by
 unfold oV at z;split at z
 case h_2=>cases z
 rename_i i j
 have z':(if kI i j=true then Res.ok (D.int (i*j)) else .no)=.err c:=z;by_cases h:kI i j=true
 ·rw[if_pos h] at z';cases z'
 ·rw[if_neg h] at z';cases z')
theorem jS:OpK X (rI zQG fun i j=>.int (i.fdiv j)) rH:=zLi (fun a b d z=>by
 unfold rH at z;split at z
 case h_2=>cases z
 rename_i i j
 have z':(if mH j=true then Res.ok (D.int (i.fdiv j)) else .no)=.ok d:=z;by_cases h:mH j=true
 ·rw[if_pos h] at z';cases z';exact⟨i,j,rfl,rfl,h,rfl⟩
 ·rw[if_neg h] at z';cases z') (fun a b c z=>by
 unfold rH at z;split at z
 case h_2=>cases z
 rename_i i j
 have z':(if mH j=true then Res.ok (D.int (i.fdiv j)) else .no)=.err c:=z;by_cases h:mH j=true
 ·rw[if_pos h] at z';cases z'
 ·rw[if_neg h] at z';cases z')
theorem kN:OpK X (rI (fun _ j=>j≠0) fun i j=>.int (i.fmod j)) tT:=zLi (fun a b d z=>by
 unfold tT at z;split at z
 case h_2=>cases z
 rename_i i j
 have z':(if j≠0 then Res.ok (D.int (i.fmod j)) else .no)=.ok d:=z;by_cases h:j≠0
 ·rw[if_pos h] at z';cases z';exact⟨i,j,rfl,rfl,h,rfl⟩
 ·rw[if_neg h] at z';cases z') (fun a b c z=>by
 unfold tT at z;split at z
 case h_2=>cases z
 rename_i i j
 have z':(if j≠0 then Res.ok (D.int (i.fmod j)) else .no)=.err c:=z;by_cases h:j≠0
 ·rw[if_pos h] at z';cases z'
 ·rw[if_neg h] at z';cases z')
theorem zKZ:OpK X (rI zOR fun i j=>.int (i^j.toNat)) zMb:=zLi (fun a b d z=>by
 unfold zMb at z;split at z
 case h_2=>cases z
 rename_i i j
 have z':(if sR i j=true then Res.ok (D.int (i^j.toNat)) else .no)=.ok d:=z;by_cases h:sR i j=true
 ·rw[if_pos h] at z';cases z';exact⟨i,j,rfl,rfl,h,rfl⟩
 ·rw[if_neg h] at z';cases z') (fun a b c z=>by
 unfold zMb at z;split at z
 case h_2=>cases z
 rename_i i j
 have z':(if sR i j=true then Res.ok (D.int (i^j.toNat)) else .no)=.err c:=z;by_cases h:sR i j=true
 ·rw[if_pos h] at z';cases z'
 ·rw[if_neg h] at z';cases z')
def zQB(K:PySem.W.Frag):R2:=fun x y H Q=>∃ a b ys,x=.ref a/\y=.ref b/\SqT K H a []/\SqT K H b ys/\Q (.ref b) H
theorem zNN:OpR X (binaryOp .Add) (zQB X.K):=by
 intro pins s σ H x y v u Q I rx ry h;obtain⟨a,b,ys,rfl,rfl,ha,hb,q⟩:=h;cases rx;cases ry;obtain⟨its,r1,p1,_⟩:=I.tuple ha;obtain⟨its2,r2,p2,_⟩:=I.tuple hb;cases r1;obtain⟨⟨c1,d1,t1,s1⟩,ho1,hc1,n1,hd1⟩:=id p1;obtain⟨⟨c2,d2,t2,s2⟩,ho2,hc2,n2,hd2⟩:=id p2;simp only at hc1 hd1 hc2 hd2
 subst hc1 hd1 hc2 hd2;exact concat_meets ⟨_,ho1,rfl⟩ ⟨_,ho2,rfl⟩ noFill_tuple_add seq_tuple_add Xz XA (XB _ _) (tuple_addW0 a b #[] its2.toArray n1 n2 d1 d2 s1 s2 rfl) ⟨ho1,ho2,⟨.ref b,H,I,rfl,q⟩⟩
def zQp(K:PySem.W.Frag):R2:=fun x y H Q=>rI0 (fun i j=>.int (i+j)) x y H Q∨(zQS K x y H Q∨zQB K x y H Q)
theorem dZ:OpR X (binaryOp .Add) (zQp X.K):=OpR.or zQv (OpR.or zNH zNN)
theorem mI:OpK X (zQp X.K) uB:=⟨fun a b c z=>(by
  unfold uB at z;split at z
  case h_1=>cases z
  case h_3=>cases z
  rename_i as bs
  have z':(if as.length+bs.length<=16777216 then Res.ok (D.tup (as++bs)) else .no)=.err c:=z
  split at z'<;>cases z'),fun Hi H x y a b d Q s r1 r2 z q=>by
  unfold uB at z;split at z
  case h_3=>cases z
  ·cases z
   exact .inl ⟨_,_,r1.intI,r2.intI,q _ Hi H (Ext.refl s) (.int _)⟩
  ·rename_i as bs
   have z':(if as.length+bs.length<=16777216 then Res.ok (D.tup (as++bs)) else .no)=.ok d:=z;split at z'
   ·rename_i hz
    cases z'
    obtain⟨p,xs,rfl,h1,i1⟩:=r1.tupI;obtain⟨p',ys,rfl,h2,i2⟩:=r2.tupI;by_cases h0:as.length=0
    ·have e0:as=[]:=XX h0
     subst e0;cases i1;exact .inr (.inr ⟨p,p',ys,rfl,rfl,cG s h1,cG s h2,q _ Hi H (Ext.refl s) (.tup h2 i2)⟩)
    refine .inr (.inl ⟨p,p',xs,ys,rfl,rfl,cG s h1,cG s h2,fun e=>h0 (by rw[<-i1.length,e];rfl),by rw[i1.length,i2.length];exact hz,fun e=>?_,fun _ l hl=>?_⟩)
    ·subst e
     cases i2;rw[QK] at q;exact q _ Hi H (Ext.refl s) (.tup h1 i1)
    ·exact q _ _ _ (Ext.new s hl) (.tup (SqT.of aY) ((i1.append i2).mono (dG (s.none hl) _)))
   ·cases z'⟩
theorem zMZ{α:Type}{xs:List α}{i:Int}{v:α}(h0:i<0)(h1:0<=(xs.length:Int)+i)(h:xs[((xs.length:Int)+i).toNat]?=some v):atI xs i=some v:=by
 have e:ixN xs.length i=some ((xs.length:Int)+i).toNat:=by
  unfold ixN;rw[if_neg (by omega),if_pos (by omega)];congr 2
  omega
 unfold atI;rw[e];exact h
theorem zJI{K:Fg_}{H:Hp}{xs:List V}{ds:List D}{i:Int}{d:D}(h:IsDs K H xs ds)(e:atD ds i=some d):∃ v,atI xs i=some v/\IsD K H v d:=by
 unfold atD at e;by_cases h0:0<=i
 ·rw[if_pos h0] at e
  obtain⟨v,hv,r⟩:=h.at e;refine⟨v,?_,r⟩
  have:=zEn hv
  rw[show((i.toNat:Nat):Int)=i by omega] at this;exact this
 ·rw[if_neg h0] at e
  by_cases h1:0<=(ds.length:Int)+i
  ·rw[if_pos h1] at e
   obtain⟨v,hv,r⟩:=h.at e;refine⟨v,?_,r⟩
   have hl:=h.length;have e2:((ds.length:Int)+i).toNat=((xs.length:Int)+i).toNat:=by rw[hl]
   rw[e2] at hv;exact zMZ (by omega) (by omega) hv
  ·rw[if_neg h1] at e;cases e
theorem bZ:OpK X (fun x y H Q=>zRf X.K x y H Q∨zRi X.K x y H Q) oIx:=⟨fun a b c z=>(by
  unfold oIx at z;split at z
  case h_3=>cases z
  ·rename_i ds i
   have z':ofO (atD ds i)=Res.err c:=z;cases q:atD ds i<;>rw[q] at z'<;>cases z'
  ·rename_i ds i
   have z':ofO (atD ds i)=Res.err c:=z
   cases q:atD ds i<;>rw[q] at z'<;>cases z'),fun Hi H x y a b d Q s r1 r2 z q=>by
  unfold oIx at z;split at z
  case h_3=>cases z
  ·rename_i ds i
   have z':ofO (atD ds i)=Res.ok d:=z
   cases w:atD ds i with
   | none=>rw[w] at z';cases z'
   | some d'=>
    rw[w] at z';cases z'
    obtain⟨p,xs,rfl,h1,i1⟩:=r1.tupI;obtain⟨v,hv,r⟩:=zJI i1 w;exact .inr ⟨p,xs,i,v,rfl,r2.intI,cG s h1,hv,q v Hi H (Ext.refl s) r⟩
  ·rename_i ds i
   have z':ofO (atD ds i)=Res.ok d:=z
   cases w:atD ds i with
   | none=>rw[w] at z';cases z'
   | some d'=>
    rw[w] at z';cases z'
    obtain⟨p,xs,rfl,h1,i1⟩:=r1.lstI;obtain⟨v,hv,r⟩:=zJI i1 w
    exact .inl ⟨p,xs,i,v,rfl,r2.intI,dB s h1,hv,q v Hi H (Ext.refl s) r⟩⟩
theorem aL:IxR X (fun x y H Q=>zRf X.K x y H Q∨zRi X.K x y H Q):=zNY.or zQd
end
section
variable{X:Cx}{pins:List (Addr×Obj)}{σ:St}{H:Hp}{s:Shared}
mutual
theorem IsD.inj(I:Inv X pins σ H s):∀ {v:V} {d e:D},IsD X.K H v d->IsD X.K H v e->d=e
 | _,_,_,.non,h=>by cases h;rfl
 | _,_,_,.bl b,h=>by cases h;rfl
 | _,_,_,.int i,h=>by cases h;rfl
 | _,_,_,.str x,h=>by cases h;rfl
 | _,_,_,.tup h hs,h2=>by
  cases h2 with
  | tup h' hs'=>
   have e:=I.tuple_inj h h';subst e;rw[IsDs.inj I hs hs']
  | lst h' hs'=>
   exfalso
   obtain⟨_,_,⟨o,e,c,_⟩,_⟩:=I.tuple h;obtain⟨_,_,⟨o',n',e',c',_⟩,_⟩:=I.list h';rw[e] at e';cases e';rw[c] at c';exact absurd c' (by decide)
 | _,_,_,.lst h hs,h2=>by
  cases h2 with
  | lst h' hs'=>
   have e:=I.list_inj h h';subst e;rw[IsDs.inj I hs hs']
  | tup h' hs'=>
   exfalso
   obtain⟨_,_,⟨o,e,c,_⟩,_⟩:=I.tuple h';obtain⟨_,_,⟨o',n',e',c',_⟩,_⟩:=I.list h;rw[e] at e';cases e';rw[c] at c';exact absurd c' (by decide)
theorem IsDs.inj(I:Inv X pins σ H s):∀ {vs:List V} {ds es:List D},IsDs X.K H vs ds->IsDs X.K H vs es->ds=es
 | _,_,_,.nil,h=>by cases h;rfl
 | _,_,_,.cons h hs,h2=>by
  cases h2 with
  | cons h' hs'=>rw[IsD.inj I h h',IsDs.inj I hs hs']
end
theorem zIt{α:Type}{l:List α}{j:Nat}{x d:α}(h:l[j]?=some x):l.getD j d=x:=by
 rw[Qx,h];rfl
theorem nR{A:Around}{xs xs':List V}{ds ds':List D}{its its':List Value}(hs:IsDs X.K H xs ds)(hs':IsDs X.K H xs' ds')(rv:dW xs its)(rv':dW xs' its')
  (rc:∀(d d':D)(v v':V)(u u':Value),d∈ds->IsD X.K H v d->IsD X.K H v' d'->dI v u->dI v' u'->SeqAt.EqAt A s u u' (eqD d d'))
  (j:Nat) (g1:j<its.toArray.size) (g2:j<its'.toArray.size):SeqAt.EqAt A s its.toArray[j] its'.toArray[j] (eqD (ds.getD j .non) (ds'.getD j .non)):=by
 have g1':j<its.length:=by simpa using g1
 have g2':j<its'.length:=by simpa using g2
 have l1:its.length=ds.length:=by rw[<-rv.length,hs.length]
 have l2:its'.length=ds'.length:=by rw[<-rv'.length,hs'.length]
 obtain⟨d,hd⟩:∃ d,ds[j]?=some d:=⟨_,Ql (by omega)⟩
 obtain⟨d',hd'⟩:∃ d,ds'[j]?=some d:=⟨_,Ql (by omega)⟩
 obtain⟨v,hv,iv⟩:=hs.at hd;obtain⟨v',hv',iv'⟩:=hs'.at hd';obtain⟨w1,hw,rw1⟩:=rv.get hv;obtain⟨w2,hw',rw2⟩:=rv'.get hv'
 have e1:its.toArray[j]=w1:=by
  rw[Ql g1'] at hw;simpa using hw
 have e2:its'.toArray[j]=w2:=by
  rw[Ql g2'] at hw';simpa using hw'
 rw[e1,e2,zIt hd,zIt hd'];exact rc d d' v v' w1 w2 (Qi hd) iv iv' rw1 rw2
theorem jE{ds ds':List D}(h:ds.length=ds'.length):((List.range ds.length).all fun j=>eqD (ds.getD j .non) (ds'.getD j .non))=zHg ds ds':=by
 rw[oG,<-h,Xp];simp
theorem zAG{ds ds':List D}(h:ds.length≠ds'.length):zHg ds ds'=false:=by
 rw[oG];simp[h]
theorem zCp(I:Inv X pins σ H s){A:Around}{v v':V}{d d':D}{u u':Value}(h1:IsD X.K H v d)(h2:IsD X.K H v' d')(r1:dI v u)(r2:dI v' u')(hu:A.units<cLine)
  (rc:∀ ds,(d=.tup ds∨d=.lst ds)->∀(e e':D)(w w':V)(z z':Value),e∈ds->IsD X.K H w e->IsD X.K H w' e'->dI w z->dI w' z'->SeqAt.EqAt A.in1 s z z' (eqD e e')):
  SeqAt.EqAt A s u u' (eqD d d'):=by
 cases h1 with
 | non=>
  cases (show u=Value.none from r1)
  cases h2 with
  | non=>cases (show u'=Value.none from r2);exact SeqAt.EqAt.same _
  | bl b=>cases (show u'=Value.bool _ from r2);exact SeqAt.EqAt.none_bool _
  | int i=>obtain⟨t,rfl⟩:=r2;exact SeqAt.EqAt.none_int _ _
  | str x=>obtain⟨t,rfl⟩:=r2;exact SeqAt.EqAt.none_str _ _
  | tup h hs=>cases (show u'=Value.ref _ from r2);obtain⟨its,rv,p,hz⟩:=I.tuple h;exact SeqAt.EqAt.none_tuple (show s.heap.IsTuple _ its.toArray from p) hu
  | lst h hs=>cases (show u'=Value.ref _ from r2);obtain⟨its,rv,p,hz⟩:=I.list h;exact SeqAt.EqAt.none_list p.isList hu
 | bl b=>
  cases (show u=Value.bool _ from r1)
  cases h2 with
  | non=>cases (show u'=Value.none from r2);exact SeqAt.EqAt.bool_none _
  | bl b=>cases (show u'=Value.bool _ from r2);exact SeqAt.EqAt.bool_bool _ _
  | int i=>obtain⟨t,rfl⟩:=r2;exact SeqAt.EqAt.bool_int _ _ _
  | str x=>obtain⟨t,rfl⟩:=r2;exact SeqAt.EqAt.bool_str _ _ _
  | tup h hs=>cases (show u'=Value.ref _ from r2);obtain⟨its,rv,p,hz⟩:=I.tuple h;exact SeqAt.EqAt.bool_tuple _ (show s.heap.IsTuple _ its.toArray from p) hu
  | lst h hs=>cases (show u'=Value.ref _ from r2);obtain⟨its,rv,p,hz⟩:=I.list h;exact SeqAt.EqAt.bool_list _ p.isList hu
 | int i=>
  obtain⟨t,rfl⟩:=r1
  cases h2 with
  | non=>cases (show u'=Value.none from r2);exact SeqAt.EqAt.int_none _ _
  | bl b=>cases (show u'=Value.bool _ from r2);exact SeqAt.EqAt.int_bool _ _ _
  | int i=>obtain⟨t,rfl⟩:=r2;exact SeqAt.EqAt.int_int _ _ _ _
  | str x=>obtain⟨t,rfl⟩:=r2;exact SeqAt.EqAt.int_str _ _ _ _
  | tup h hs=>cases (show u'=Value.ref _ from r2);obtain⟨its,rv,p,hz⟩:=I.tuple h;exact SeqAt.EqAt.int_tuple _ _ (show s.heap.IsTuple _ its.toArray from p) hu
  | lst h hs=>cases (show u'=Value.ref _ from r2);obtain⟨its,rv,p,hz⟩:=I.list h;exact SeqAt.EqAt.int_list _ _ p.isList hu
 | str x=>
  obtain⟨t,rfl⟩:=r1
  cases h2 with
  | non=>cases (show u'=Value.none from r2);exact SeqAt.EqAt.str_none _ _
  | bl b=>cases (show u'=Value.bool _ from r2);exact SeqAt.EqAt.str_bool _ _ _
  | int i=>obtain⟨t,rfl⟩:=r2;exact SeqAt.EqAt.str_int _ _ _ _
  | str x=>obtain⟨t,rfl⟩:=r2;exact SeqAt.EqAt.str_str _ _ _ _
  | tup h hs=>cases (show u'=Value.ref _ from r2);obtain⟨its,rv,p,hz⟩:=I.tuple h;exact SeqAt.EqAt.str_tuple _ _ (show s.heap.IsTuple _ its.toArray from p) hu
  | lst h hs=>cases (show u'=Value.ref _ from r2);obtain⟨its,rv,p,hz⟩:=I.list h;exact SeqAt.EqAt.str_list _ _ p.isList hu
 | @tup a xs ds h hs=>
  cases (show u=Value.ref a from r1)
  obtain⟨its,rv,p,hz⟩:=I.tuple h
  cases h2 with
  | non=>cases (show u'=Value.none from r2);exact SeqAt.EqAt.tuple_none (show s.heap.IsTuple _ its.toArray from p) hu
  | bl b=>cases (show u'=Value.bool _ from r2);exact SeqAt.EqAt.tuple_bool _ (show s.heap.IsTuple _ its.toArray from p) hu
  | int i=>obtain⟨t,rfl⟩:=r2;exact SeqAt.EqAt.tuple_int _ _ (show s.heap.IsTuple _ its.toArray from p) hu
  | str x=>obtain⟨t,rfl⟩:=r2;exact SeqAt.EqAt.tuple_str _ _ (show s.heap.IsTuple _ its.toArray from p) hu
  | @tup a' xs' ds' h' hs'=>
   cases (show u'=Value.ref a' from r2)
   by_cases e:a=a'
   ·subst e
    have e:=I.tuple_inj h h';subst e;have e:=IsDs.inj I hs hs';subst e;rw[pQ];exact SeqAt.EqAt.same _
   ·obtain⟨its',rv',p',hz'⟩:=I.tuple h'
    have l1:its.toArray.size=ds.length:=by rw[Qk,<-rv.length,hs.length]
    have l2:its'.toArray.size=ds'.length:=by rw[Qk,<-rv'.length,hs'.length]
    have key:=SeqAt.RcAt.tuples (A:=A) (s:=s) (show s.heap.IsTuple a its.toArray from p) (show s.heap.IsTuple a' its'.toArray from p') hu
     (nR (A:=A.in1) (s:=s) hs hs' rv rv' fun d d' v v' u u' hm iv iv' r r'=>rc ds (.inl rfl) d d' v v' u u' hm iv iv' r r')
    rw[l1,l2,<-oG] at key;exact SeqAt.EqAt.of_refs e key
  | @lst a' xs' ds' h' hs'=>
   cases (show u'=Value.ref a' from r2)
   obtain⟨its',rv',p',hz'⟩:=I.list h';exact SeqAt.EqAt.tuple_list (show s.heap.IsTuple _ its.toArray from p) p'.isList hu
 | @lst a xs ds h hs=>
  cases (show u=Value.ref a from r1)
  obtain⟨its,rv,p,hz⟩:=I.list h
  cases h2 with
  | non=>cases (show u'=Value.none from r2);exact SeqAt.EqAt.list_none p.isList hu
  | bl b=>cases (show u'=Value.bool _ from r2);exact SeqAt.EqAt.list_bool _ p.isList hu
  | int i=>obtain⟨t,rfl⟩:=r2;exact SeqAt.EqAt.list_int _ _ p.isList hu
  | str x=>obtain⟨t,rfl⟩:=r2;exact SeqAt.EqAt.list_str _ _ p.isList hu
  | @tup a' xs' ds' h' hs'=>
   cases (show u'=Value.ref a' from r2)
   obtain⟨its',rv',p',hz'⟩:=I.tuple h';exact SeqAt.EqAt.list_tuple p.isList (show s.heap.IsTuple _ its'.toArray from p') hu
  | @lst a' xs' ds' h' hs'=>
   cases (show u'=Value.ref a' from r2)
   by_cases e:a=a'
   ·subst e
    have e:=I.list_inj h h';subst e;have e:=IsDs.inj I hs hs';subst e;rw[pQ];exact SeqAt.EqAt.same _
   ·obtain⟨its',rv',p',hz'⟩:=I.list h'
    have l1:its.toArray.size=ds.length:=by rw[Qk,<-rv.length,hs.length]
    have l2:its'.toArray.size=ds'.length:=by rw[Qk,<-rv'.length,hs'.length]
    by_cases hl:ds.length=ds'.length
    ·have key:=SeqAt.RcAt.lists (A:=A) (s:=s) p.isList p'.isList (by rw[l1,l2,hl]) hu
      (nR (A:=A.in1) (s:=s) hs hs' rv rv' fun d d' v v' u u' hm iv iv' r r'=>rc ds (.inr rfl) d d' v v' u u' hm iv iv' r r')
     rw[l1,jE hl] at key;exact SeqAt.EqAt.of_refs e key
    ·have key:=SeqAt.RcAt.lists_lengths (A:=A) (s:=s) p.isList p'.isList (by rw[l1,l2];simp[hl]) hu
     rw[eqD,zAG hl];exact SeqAt.EqAt.of_refs e key
theorem zJm(I:Inv X pins σ H s)(n:Nat):∀ {v v':V} {d d':D},dep d<=n->IsD X.K H v d->IsD X.K H v' d'->
  ∀(A:Around)(u u':Value),A.units+n<cLine->dI v u->dI v' u'->SeqAt.EqAt A s u u' (eqD d d'):=by
 induction n with
 | zero=>
  intro v v' d d' hn h1 h2 A u u' hu r1 r2;refine zCp I h1 h2 r1 r2 (by omega) fun ds hd=>?_
  rcases hd with rfl | rfl<;>(rw[dep] at hn;omega)
 | succ n ih=>
  intro v v' d d' hn h1 h2 A u u' hu r1 r2;refine zCp I h1 h2 r1 r2 (by omega) fun ds hd e e' w w' z z' hm i1 i2 q1 q2=>?_
  refine ih ?_ i1 i2 A.in1 z z' (by show A.units+1+n<cLine;omega) q1 q2
  have:=uW hm
  rcases hd with rfl | rfl<;>(rw[dep] at hn;omega)
theorem zJX(I:Inv X pins σ H s){A:Around}{v v':V}{d d':D}{u u':Value}(h1:IsD X.K H v d)(h2:IsD X.K H v' d')(r1:dI v u)(r2:dI v' u')(hu:A.units<cLine)
  (rc:∀ ds,(d=.tup ds∨d=.lst ds)->∀(e e':D)(w w':V)(z z':Value),e∈ds->IsD X.K H w e->IsD X.K H w' e'->dI w z->dI w' z'->SeqAt.EqAt A.in1 s z z' (eqD e e')):
  SeqAt.RcAt A s u u' (eqD d d'):=by
 cases h1 with
 | non=>
  cases (show u=Value.none from r1)
  cases h2 with
  | non=>cases (show u'=Value.none from r2);exact SeqAt.RcAt.none_none
  | bl b=>cases (show u'=Value.bool _ from r2);exact SeqAt.RcAt.none_bool _
  | int i=>obtain⟨t,rfl⟩:=r2;exact SeqAt.RcAt.none_int _ _
  | str x=>obtain⟨t,rfl⟩:=r2;exact SeqAt.RcAt.none_str _ _
  | tup h hs=>cases (show u'=Value.ref _ from r2);obtain⟨its,rv,p,hz⟩:=I.tuple h;exact SeqAt.RcAt.none_tuple (show s.heap.IsTuple _ its.toArray from p) hu
  | lst h hs=>cases (show u'=Value.ref _ from r2);obtain⟨its,rv,p,hz⟩:=I.list h;exact SeqAt.RcAt.none_list p.isList hu
 | bl b=>
  cases (show u=Value.bool _ from r1)
  cases h2 with
  | non=>cases (show u'=Value.none from r2);exact SeqAt.RcAt.bool_none _
  | bl b=>cases (show u'=Value.bool _ from r2);exact SeqAt.RcAt.bool_bool _ _
  | int i=>obtain⟨t,rfl⟩:=r2;exact SeqAt.RcAt.bool_int _ _ _
  | str x=>obtain⟨t,rfl⟩:=r2;exact SeqAt.RcAt.bool_str _ _ _
  | tup h hs=>cases (show u'=Value.ref _ from r2);obtain⟨its,rv,p,hz⟩:=I.tuple h;exact SeqAt.RcAt.bool_tuple _ (show s.heap.IsTuple _ its.toArray from p) hu
  | lst h hs=>cases (show u'=Value.ref _ from r2);obtain⟨its,rv,p,hz⟩:=I.list h;exact SeqAt.RcAt.bool_list _ p.isList hu
 | int i=>
  obtain⟨t,rfl⟩:=r1
  cases h2 with
  | non=>cases (show u'=Value.none from r2);exact SeqAt.RcAt.int_none _ _
  | bl b=>cases (show u'=Value.bool _ from r2);exact SeqAt.RcAt.int_bool _ _ _
  | int i=>obtain⟨t,rfl⟩:=r2;exact SeqAt.RcAt.int_int _ _ _ _
  | str x=>obtain⟨t,rfl⟩:=r2;exact SeqAt.RcAt.int_str _ _ _ _
  | tup h hs=>cases (show u'=Value.ref _ from r2);obtain⟨its,rv,p,hz⟩:=I.tuple h;exact SeqAt.RcAt.int_tuple _ _ (show s.heap.IsTuple _ its.toArray from p) hu
  | lst h hs=>cases (show u'=Value.ref _ from r2);obtain⟨its,rv,p,hz⟩:=I.list h;exact SeqAt.RcAt.int_list _ _ p.isList hu
 | str x=>
  obtain⟨t,rfl⟩:=r1
  cases h2 with
  | non=>cases (show u'=Value.none from r2);exact SeqAt.RcAt.str_none _ _
  | bl b=>cases (show u'=Value.bool _ from r2);exact SeqAt.RcAt.str_bool _ _ _
  | int i=>obtain⟨t,rfl⟩:=r2;exact SeqAt.RcAt.str_int _ _ _ _
  | str x=>obtain⟨t,rfl⟩:=r2;exact SeqAt.RcAt.str_str _ _ _ _
  | tup h hs=>cases (show u'=Value.ref _ from r2);obtain⟨its,rv,p,hz⟩:=I.tuple h;exact SeqAt.RcAt.str_tuple _ _ (show s.heap.IsTuple _ its.toArray from p) hu
  | lst h hs=>cases (show u'=Value.ref _ from r2);obtain⟨its,rv,p,hz⟩:=I.list h;exact SeqAt.RcAt.str_list _ _ p.isList hu
 | @tup a xs ds h hs=>
  cases (show u=Value.ref a from r1)
  obtain⟨its,rv,p,hz⟩:=I.tuple h
  cases h2 with
  | non=>cases (show u'=Value.none from r2);exact SeqAt.RcAt.tuple_none (show s.heap.IsTuple _ its.toArray from p) hu
  | bl b=>cases (show u'=Value.bool _ from r2);exact SeqAt.RcAt.tuple_bool _ (show s.heap.IsTuple _ its.toArray from p) hu
  | int i=>obtain⟨t,rfl⟩:=r2;exact SeqAt.RcAt.tuple_int _ _ (show s.heap.IsTuple _ its.toArray from p) hu
  | str x=>obtain⟨t,rfl⟩:=r2;exact SeqAt.RcAt.tuple_str _ _ (show s.heap.IsTuple _ its.toArray from p) hu
  | @tup a' xs' ds' h' hs'=>
   cases (show u'=Value.ref a' from r2)
   ·obtain⟨its',rv',p',hz'⟩:=I.tuple h'
    have l1:its.toArray.size=ds.length:=by rw[Qk,<-rv.length,hs.length]
    have l2:its'.toArray.size=ds'.length:=by rw[Qk,<-rv'.length,hs'.length]
    have key:=SeqAt.RcAt.tuples (A:=A) (s:=s) (show s.heap.IsTuple a its.toArray from p) (show s.heap.IsTuple a' its'.toArray from p') hu
     (nR (A:=A.in1) (s:=s) hs hs' rv rv' fun d d' v v' u u' hm iv iv' r r'=>rc ds (.inl rfl) d d' v v' u u' hm iv iv' r r')
    rw[l1,l2,<-oG] at key;exact key
  | @lst a' xs' ds' h' hs'=>
   cases (show u'=Value.ref a' from r2)
   obtain⟨its',rv',p',hz'⟩:=I.list h';exact SeqAt.RcAt.tuple_list (show s.heap.IsTuple _ its.toArray from p) p'.isList hu
 | @lst a xs ds h hs=>
  cases (show u=Value.ref a from r1)
  obtain⟨its,rv,p,hz⟩:=I.list h
  cases h2 with
  | non=>cases (show u'=Value.none from r2);exact SeqAt.RcAt.list_none p.isList hu
  | bl b=>cases (show u'=Value.bool _ from r2);exact SeqAt.RcAt.list_bool _ p.isList hu
  | int i=>obtain⟨t,rfl⟩:=r2;exact SeqAt.RcAt.list_int _ _ p.isList hu
  | str x=>obtain⟨t,rfl⟩:=r2;exact SeqAt.RcAt.list_str _ _ p.isList hu
  | @tup a' xs' ds' h' hs'=>
   cases (show u'=Value.ref a' from r2)
   obtain⟨its',rv',p',hz'⟩:=I.tuple h';exact SeqAt.RcAt.list_tuple p.isList (show s.heap.IsTuple _ its'.toArray from p') hu
  | @lst a' xs' ds' h' hs'=>
   cases (show u'=Value.ref a' from r2)
   ·obtain⟨its',rv',p',hz'⟩:=I.list h'
    have l1:its.toArray.size=ds.length:=by rw[Qk,<-rv.length,hs.length]
    have l2:its'.toArray.size=ds'.length:=by rw[Qk,<-rv'.length,hs'.length]
    by_cases hl:ds.length=ds'.length
    ·have key:=SeqAt.RcAt.lists (A:=A) (s:=s) p.isList p'.isList (by rw[l1,l2,hl]) hu
      (nR (A:=A.in1) (s:=s) hs hs' rv rv' fun d d' v v' u u' hm iv iv' r r'=>rc ds (.inr rfl) d d' v v' u u' hm iv iv' r r')
     rw[l1,jE hl] at key;exact key
    ·have key:=SeqAt.RcAt.lists_lengths (A:=A) (s:=s) p.isList p'.isList (by rw[l1,l2];simp[hl]) hu
     rw[eqD,zAG hl];exact key
theorem zJv(I:Inv X pins σ H s){A:Around}{v v':V}{d d':D}{u u':Value}(h1:IsD X.K H v d)(h2:IsD X.K H v' d')(r1:dI v u)(r2:dI v' u')(hu:A.units<cLine)
  (rc:∀ ds,(d=.tup ds∨d=.lst ds)->∀(e e':D)(w w':V)(z z':Value),e∈ds->IsD X.K H w e->IsD X.K H w' e'->dI w z->dI w' z'->SeqAt.EqAt A.in1 s z z' (eqD e e')):
  SeqAt.RcNeAt A s u u' (!eqD d d'):=by
 cases h1 with
 | non=>
  cases (show u=Value.none from r1)
  cases h2 with
  | non=>cases (show u'=Value.none from r2);exact SeqAt.RcNeAt.none_none
  | bl b=>cases (show u'=Value.bool _ from r2);exact SeqAt.RcNeAt.none_bool _
  | int i=>obtain⟨t,rfl⟩:=r2;exact SeqAt.RcNeAt.none_int _ _
  | str x=>obtain⟨t,rfl⟩:=r2;exact SeqAt.RcNeAt.none_str _ _
  | tup h hs=>cases (show u'=Value.ref _ from r2);obtain⟨its,rv,p,hz⟩:=I.tuple h;exact SeqAt.RcNeAt.none_tuple (show s.heap.IsTuple _ its.toArray from p) hu
  | lst h hs=>cases (show u'=Value.ref _ from r2);obtain⟨its,rv,p,hz⟩:=I.list h;exact SeqAt.RcNeAt.none_list p.isList hu
 | bl b=>
  cases (show u=Value.bool _ from r1)
  cases h2 with
  | non=>cases (show u'=Value.none from r2);exact SeqAt.RcNeAt.bool_none _
  | bl b=>cases (show u'=Value.bool _ from r2);exact SeqAt.RcNeAt.bool_bool _ _
  | int i=>obtain⟨t,rfl⟩:=r2;exact SeqAt.RcNeAt.bool_int _ _ _
  | str x=>obtain⟨t,rfl⟩:=r2;exact SeqAt.RcNeAt.bool_str _ _ _
  | tup h hs=>cases (show u'=Value.ref _ from r2);obtain⟨its,rv,p,hz⟩:=I.tuple h;exact SeqAt.RcNeAt.bool_tuple _ (show s.heap.IsTuple _ its.toArray from p) hu
  | lst h hs=>cases (show u'=Value.ref _ from r2);obtain⟨its,rv,p,hz⟩:=I.list h;exact SeqAt.RcNeAt.bool_list _ p.isList hu
 | int i=>
  obtain⟨t,rfl⟩:=r1
  cases h2 with
  | non=>cases (show u'=Value.none from r2);exact SeqAt.RcNeAt.int_none _ _
  | bl b=>cases (show u'=Value.bool _ from r2);exact SeqAt.RcNeAt.int_bool _ _ _
  | int i=>obtain⟨t,rfl⟩:=r2;exact SeqAt.RcNeAt.int_int _ _ _ _
  | str x=>obtain⟨t,rfl⟩:=r2;exact SeqAt.RcNeAt.int_str _ _ _ _
  | tup h hs=>cases (show u'=Value.ref _ from r2);obtain⟨its,rv,p,hz⟩:=I.tuple h;exact SeqAt.RcNeAt.int_tuple _ _ (show s.heap.IsTuple _ its.toArray from p) hu
  | lst h hs=>cases (show u'=Value.ref _ from r2);obtain⟨its,rv,p,hz⟩:=I.list h;exact SeqAt.RcNeAt.int_list _ _ p.isList hu
 | str x=>
  obtain⟨t,rfl⟩:=r1
  cases h2 with
  | non=>cases (show u'=Value.none from r2);exact SeqAt.RcNeAt.str_none _ _
  | bl b=>cases (show u'=Value.bool _ from r2);exact SeqAt.RcNeAt.str_bool _ _ _
  | int i=>obtain⟨t,rfl⟩:=r2;exact SeqAt.RcNeAt.str_int _ _ _ _
  | str x=>obtain⟨t,rfl⟩:=r2;exact SeqAt.RcNeAt.str_str _ _ _ _
  | tup h hs=>cases (show u'=Value.ref _ from r2);obtain⟨its,rv,p,hz⟩:=I.tuple h;exact SeqAt.RcNeAt.str_tuple _ _ (show s.heap.IsTuple _ its.toArray from p) hu
  | lst h hs=>cases (show u'=Value.ref _ from r2);obtain⟨its,rv,p,hz⟩:=I.list h;exact SeqAt.RcNeAt.str_list _ _ p.isList hu
 | @tup a xs ds h hs=>
  cases (show u=Value.ref a from r1)
  obtain⟨its,rv,p,hz⟩:=I.tuple h
  cases h2 with
  | non=>cases (show u'=Value.none from r2);exact SeqAt.RcNeAt.tuple_none (show s.heap.IsTuple _ its.toArray from p) hu
  | bl b=>cases (show u'=Value.bool _ from r2);exact SeqAt.RcNeAt.tuple_bool _ (show s.heap.IsTuple _ its.toArray from p) hu
  | int i=>obtain⟨t,rfl⟩:=r2;exact SeqAt.RcNeAt.tuple_int _ _ (show s.heap.IsTuple _ its.toArray from p) hu
  | str x=>obtain⟨t,rfl⟩:=r2;exact SeqAt.RcNeAt.tuple_str _ _ (show s.heap.IsTuple _ its.toArray from p) hu
  | @tup a' xs' ds' h' hs'=>
   cases (show u'=Value.ref a' from r2)
   ·obtain⟨its',rv',p',hz'⟩:=I.tuple h'
    have l1:its.toArray.size=ds.length:=by rw[Qk,<-rv.length,hs.length]
    have l2:its'.toArray.size=ds'.length:=by rw[Qk,<-rv'.length,hs'.length]
    have key:=SeqAt.RcNeAt.tuples (A:=A) (s:=s) (show s.heap.IsTuple a its.toArray from p) (show s.heap.IsTuple a' its'.toArray from p') hu
     (nR (A:=A.in1) (s:=s) hs hs' rv rv' fun d d' v v' u u' hm iv iv' r r'=>rc ds (.inl rfl) d d' v v' u u' hm iv iv' r r')
    rw[l1,l2,<-oG] at key;exact key
  | @lst a' xs' ds' h' hs'=>
   cases (show u'=Value.ref a' from r2)
   obtain⟨its',rv',p',hz'⟩:=I.list h';exact SeqAt.RcNeAt.tuple_list (show s.heap.IsTuple _ its.toArray from p) p'.isList hu
 | @lst a xs ds h hs=>
  cases (show u=Value.ref a from r1)
  obtain⟨its,rv,p,hz⟩:=I.list h
  cases h2 with
  | non=>cases (show u'=Value.none from r2);exact SeqAt.RcNeAt.list_none p.isList hu
  | bl b=>cases (show u'=Value.bool _ from r2);exact SeqAt.RcNeAt.list_bool _ p.isList hu
  | int i=>obtain⟨t,rfl⟩:=r2;exact SeqAt.RcNeAt.list_int _ _ p.isList hu
  | str x=>obtain⟨t,rfl⟩:=r2;exact SeqAt.RcNeAt.list_str _ _ p.isList hu
  | @tup a' xs' ds' h' hs'=>
   cases (show u'=Value.ref a' from r2)
   obtain⟨its',rv',p',hz'⟩:=I.tuple h';exact SeqAt.RcNeAt.list_tuple p.isList (show s.heap.IsTuple _ its'.toArray from p') hu
  | @lst a' xs' ds' h' hs'=>
   cases (show u'=Value.ref a' from r2)
   ·obtain⟨its',rv',p',hz'⟩:=I.list h'
    have l1:its.toArray.size=ds.length:=by rw[Qk,<-rv.length,hs.length]
    have l2:its'.toArray.size=ds'.length:=by rw[Qk,<-rv'.length,hs'.length]
    by_cases hl:ds.length=ds'.length
    ·have key:=SeqAt.RcNeAt.lists (A:=A) (s:=s) p.isList p'.isList (by rw[l1,l2,hl]) hu
      (nR (A:=A.in1) (s:=s) hs hs' rv rv' fun d d' v v' u u' hm iv iv' r r'=>rc ds (.inr rfl) d d' v v' u u' hm iv iv' r r')
     rw[l1,jE hl] at key;exact key
    ·have key:=SeqAt.RcNeAt.lists_lengths (A:=A) (s:=s) p.isList p'.isList (by rw[l1,l2];simp[hl]) hu
     rw[eqD,zAG hl];exact key
theorem eqA{X:Cx}(hu:X.A.units+64<cLine):OpR X (compareOp .Eq) (fun x y H Q=>∃ d d',IsD X.K H x d/\IsD X.K H y d'/\dep d<=50/\Q (.bl (eqD d d')) H):=by
 intro pins s σ H x y v u Q I rx ry h;obtain⟨d,d',h1,h2,hn,q⟩:=h;refine zJX I h1 h2 rx ry (by omega) (fun ds hd e e' w w' z z' hm i1 i2 q1 q2=>?_) X.prog X.w X.xe _ ⟨.bl _,H,I,rfl,q⟩
 refine zJm I 50 ?_ i1 i2 X.A.in1 z z' (by show X.A.units+1+50<cLine;omega) q1 q2
 have:=uW hm
 rcases hd with rfl | rfl<;>(rw[dep] at hn;omega)
theorem neA{X:Cx}(hu:X.A.units+64<cLine):OpR X (compareOp .NotEq) (fun x y H Q=>∃ d d',IsD X.K H x d/\IsD X.K H y d'/\dep d<=50/\Q (.bl (!eqD d d')) H):=by
 intro pins s σ H x y v u Q I rx ry h;obtain⟨d,d',h1,h2,hn,q⟩:=h;refine zJv I h1 h2 rx ry (by omega) (fun ds hd e e' w w' z z' hm i1 i2 q1 q2=>?_) X.prog X.w X.xe _ ⟨.bl _,H,I,rfl,q⟩
 refine zJm I 50 ?_ i1 i2 X.A.in1 z z' (by show X.A.units+1+50<cLine;omega) q1 q2
 have:=uW hm
 rcases hd with rfl | rfl<;>(rw[dep] at hn;omega)
theorem rD{X:Cx}:OpK X (fun x y H Q=>∃ d d',IsD X.K H x d/\IsD X.K H y d'/\dep d<=50/\Q (.bl (eqD d d')) H) oEq:=⟨fun a b c z=>(by
  unfold oEq at z;split at z<;>cases z),fun Hi H x y a b d Q s r1 r2 z q=>by
  unfold oEq at z;split at z
  ·rename_i h;cases z;exact⟨a,b,r1.mono s,r2.mono s,h,q _ Hi H (Ext.refl s) (.bl _)⟩
  ·cases z⟩
theorem zKl{X:Cx}:OpK X (fun x y H Q=>∃ d d',IsD X.K H x d/\IsD X.K H y d'/\dep d<=50/\Q (.bl (!eqD d d')) H) oNe:=⟨fun a b c z=>(by
  unfold oNe at z;split at z<;>cases z),fun Hi H x y a b d Q s r1 r2 z q=>by
  unfold oNe at z;split at z
  ·rename_i h;cases z;exact⟨a,b,r1.mono s,r2.mono s,h,q _ Hi H (Ext.refl s) (.bl _)⟩
  ·cases z⟩
open Classical in
def zOP(K:PySem.W.Frag)(H:Hp)(dx:D)(u:Value):Bool:=if ∃ w d,IsD K H w d/\dI w u/\eqD d dx=true then true else false
theorem zJu(I:Inv X pins σ H s){dx d:D}{w:V}{u:Value}(h:IsD X.K H w d)(r:dI w u):zOP X.K H dx u=eqD d dx:=by
 unfold zOP;by_cases e:eqD d dx=true
 ·rw[if_pos ⟨w,d,h,r,e⟩,e]
 ·rw[if_neg]
  ·simpa using e
  ·rintro⟨w',d',h',r',e'⟩
   have:=r.inj r'
   subst this;have:=IsD.inj I h h'
   subst this;exact e e'
theorem zEJ(I:Inv X pins σ H s){dx:D}:∀ {xs:List V} {ds:List D} {us:List Value},IsDs X.K H xs ds->dW xs us->us.any (zOP X.K H dx)=ds.any fun d=>eqD d dx
 | _,_,_,.nil,.nil=>rfl
 | _,_,_,.cons h hs,.cons r t=>by rw[List.any_cons,List.any_cons,zJu I h r,zEJ I hs t]
theorem zEh(I:Inv X pins σ H s){A:Around}{dx:D}{x:V}{ux:Value}(hx:IsD X.K H x dx)(rx:dI x ux)(hu:A.units+50<cLine):∀ {xs:List V} {ds:List D} {us:List Value},IsDs X.K H xs ds->dW xs us->(∀ d∈ds,dep d<=50)->∀ u∈us,SeqAt.EqAt A s u ux (zOP X.K H dx u)
 | _,_,_,.nil,.nil,_=>fun u hu=>by cases hu
 | _,_,_,.cons h hs,.cons r t,f=>fun u hm=>by
  rcases Qd.mp hm with rfl | hm
  ·rw[zJu I h r];exact zJm I 50 (f _ Qb) h hx A _ ux hu r rx
  ·exact zEh I hx rx hu hs t (fun d hd=>f d (Qc _ hd)) u hm
def zSi(K:PySem.W.Frag)(neg:Bool):R2:=fun x y H Q=>∃ d ds,IsD K H x d/\(IsD K H y (.lst ds)∨IsD K H y (.tup ds))/\depS ds<=50/\Q (.bl (if neg=true then !(ds.any fun e=>eqD e d) else ds.any fun e=>eqD e d)) H
theorem inA{X:Cx}(hu:X.A.units+64<cLine):OpR X (compareOp .In) (zSi X.K false):=by
 intro pins s σ H x y v u Q I rx ry h;obtain⟨d,ds,h1,h2,hn,q⟩:=h;have hd:∀ e∈ds,dep e<=50:=fun e he=>QD (uW he) hn
 rcases h2 with h2 | h2
 ·obtain⟨a,xs,rfl,hl,hs⟩:=h2.lstI
  cases ry;obtain⟨its,rv,p,hz⟩:=I.list hl;refine SeqAt.in_listAt (zOP X.K H d) p.isList (fun y hy=>zEh I h1 rx (by show X.A.units+1+50<cLine;omega) hs rv hd y (by simpa using hy)) ?_
  exact⟨.bl _,H,I,by rw[List.any_toArray,zEJ I hs rv];rfl,q⟩
 ·obtain⟨a,xs,rfl,hl,hs⟩:=h2.tupI
  cases ry;obtain⟨its,rv,p,hz⟩:=I.tuple hl;refine SeqAt.in_tupleAt (zOP X.K H d) (show s.heap.IsTuple _ its.toArray from p) (fun y hy=>zEh I h1 rx (by show X.A.units+1+50<cLine;omega) hs rv hd y (by simpa using hy)) ?_
  exact⟨.bl _,H,I,by rw[List.any_toArray,zEJ I hs rv];rfl,q⟩
theorem zSl{X:Cx}:OpK X (zSi X.K false) oIn:=⟨fun a b c z=>(by
  cases b<;>first | cases z | (simp only[oIn] at z;split at z<;>cases z)),fun Hi H x y a b d Q s r1 r2 z q=>by
  cases b<;>first | cases z | skip
  ·rename_i ds
   simp only[oIn] at z;split at z
   ·rename_i h;cases z;exact⟨a,ds,r1.mono s,.inr (r2.mono s),h,q _ Hi H (Ext.refl s) (.bl _)⟩
   ·cases z
  ·rename_i ds
   simp only[oIn] at z;split at z
   ·rename_i h;cases z;exact⟨a,ds,r1.mono s,.inl (r2.mono s),h,q _ Hi H (Ext.refl s) (.bl _)⟩
   ·cases z⟩
end
end L3
namespace L3
open PySem PySem.Spec PyProof.Rows L2
unseal PEd PEf PTd PWd PAd PSd fB
section
variable{X:Cx}{G:Gx}{a b e:Expr}{es:List Expr}{pos p:Pos}{f g:Ev}{fs gs:Fv}{t u:Tv}{x:Str}{id T:String}
def zBy(X:Cx)(r:List V->Hp->VK->Prop)(o:List D->Res D):Prop:=(∀ a c,o a≠.err c)/\∀(Hi H:Hp)(vs:List V)(ds:List D)(d:D)(Q:VK),Same Hi H->IsDs X.K Hi vs ds->o ds=.ok d->
 (∀ v Hi' H',Ext Hi H Hi' H'->IsD X.K Hi' v d->Q v H')->r vs H Q
theorem zQo{r:List V->Hp->VK->Prop}{o:List D->Res D}(k:zBy X r o):∀ σ H Q,tD X G (eB o fs) σ H Q->tCB r (tAs X G fs) σ H Q:=fun σ H Q q=>by
 obtain⟨ρ,Hi,R,ou⟩:=q;refine zKh R ou fun vs ds Hi1 H1 e1 R1 r1 o1=>?_
 cases z:o ds with
 | no=>rw[z] at o1;exact o1.elim
 | err c=>exact absurd z (k.1 ds c)
 | ok d=>rw[z] at o1;exact k.2 Hi1 H1 vs ds d Q R1.s r1 z fun v Hi2 H2 e2 r2=>o1 Hi2 H2 e2 v r2
theorem aS{r:List V->Hp->VK->Prop}{o:List D->Res D}(hc:tP X (.builtin id) r)(k:zBy X r o)(hg:Gl X x)(hm:X.mg x=none)(hv:bootBuiltins x=some (.builtin id))(ha:PAd X G (e::es) fs)(hn:x ≠ "__name__" := by decide)(hdb:(x==("__debug__" : Str))=false:=by decide)
  (he:starEach (e::es) X.env=(false,eval e X.env)::starEach es X.env:=by rfl) (hpl:(backTo pos (starEach es X.env)).any (·.1)=false:=by rfl):PEd X G (.Call (.Name x p) (e::es) [] pos) (eB o fs):=
 PE.wk (zI hc hg hm hv ha hn hdb he hpl) (zQo k)
theorem nQ{r:List V->Hp->VK->Prop}{o:List D->Res D}(hc:tP X (.type T) r)(k:zBy X r o)(hg:Gl X x)(hm:X.mg x=none)(hv:bootBuiltins x=some (.type T))(ha:PAd X G (e::es) fs)(hn:x ≠ "__name__" := by decide)(hdb:(x==("__debug__" : Str))=false:=by decide)
  (he:starEach (e::es) X.env=(false,eval e X.env)::starEach es X.env:=by rfl) (hpl:(backTo pos (starEach es X.env)).any (·.1)=false:=by rfl):PEd X G (.Call (.Name x p) (e::es) [] pos) (eB o fs):=
 PE.wk (zCc hc hg hm hv ha hn hdb he hpl) (zQo k)
theorem IsDs.one{K:Fg_}{H:Hp}{vs:List V}{d:D}(h:IsDs K H vs [d]):∃ v,vs=[v]/\IsD K H v d:=by
 cases h with
 | cons h t=>cases t;exact⟨_,rfl,h⟩
theorem IsDs.two{K:Fg_}{H:Hp}{vs:List V}{d d':D}(h:IsDs K H vs [d,d']):∃ v w,vs=[v,w]/\IsD K H v d/\IsD K H w d':=by
 cases h with
 | cons h t=>obtain⟨w,rfl,hw⟩:=t.one;exact⟨_,w,rfl,h,hw⟩
theorem cU:zBy X (fun xs H Q=>∃ p ys,xs=[.ref p]/\(SqL X.K H p ys∨SqT X.K H p ys)/\Q (.int ys.length) H) kU:=⟨fun a c z=>(by
  unfold kU at z;split at z<;>cases z),fun Hi H vs ds d Q s r z q=>by
  unfold kU at z;split at z
  ·cases z
   obtain⟨v,rfl,h⟩:=r.one;obtain⟨a,xs,rfl,h1,h2⟩:=h.lstI;refine⟨a,xs,rfl,.inl (dB s h1),?_⟩
   rw[h2.length];exact q _ Hi H (Ext.refl s) (.int _)
  ·cases z
   obtain⟨v,rfl,h⟩:=r.one;obtain⟨a,xs,rfl,h1,h2⟩:=h.tupI;refine⟨a,xs,rfl,.inr (cG s h1),?_⟩
   rw[h2.length];exact q _ Hi H (Ext.refl s) (.int _)
  ·cases z⟩
theorem zFa:zBy X (fun xs H Q=>∃ i,xs=[.int i]/\Q (.int (if i<0 then -i else i)) H) zMo:=⟨fun a c z=>(by
  unfold zMo at z;split at z<;>cases z),fun Hi H vs ds d Q s r z q=>by
  unfold zMo at z;split at z
  ·cases z
   obtain⟨v,rfl,h⟩:=r.one;exact⟨_,by rw[h.intI],q _ Hi H (Ext.refl s) (.int _)⟩
  ·cases z⟩
theorem zFt:zBy X (fun xs H Q=>∃ p ys,xs=[.ref p]/\((SqL X.K H p ys/\∀ l,H l=none->Q (.ref l) (upd H l (.tup ys)))∨(SqT X.K H p ys/\Q (.ref p) H))) zKV:=⟨fun a c z=>(by
  unfold zKV at z;split at z<;>cases z),fun Hi H vs ds d Q s r z q=>by
  unfold zKV at z;split at z
  ·cases z
   obtain⟨v,rfl,h⟩:=r.one;obtain⟨a,xs,rfl,h1,h2⟩:=h.lstI;exact⟨a,xs,rfl,.inl ⟨dB s h1,fun l hl=>q _ _ _ (Ext.new s hl) (.tup (SqT.of aY) (h2.mono (dG (s.none hl) _)))⟩⟩
  ·cases z
   obtain⟨v,rfl,h⟩:=r.one;obtain⟨a,xs,rfl,h1,h2⟩:=h.tupI;exact⟨a,xs,rfl,.inr ⟨cG s h1,q _ Hi H (Ext.refl s) (.tup h1 h2)⟩⟩
  ·cases z⟩
theorem zMO(hg:Gl X "list")(hm:X.mg "list" = none)(hv:bootBuiltins "list" = some (.type "list"))(ha:PAd X G (e::es) fs)
  (he:starEach (e::es) X.env=(false,eval e X.env)::starEach es X.env:=by rfl) (hpl:(backTo pos (starEach es X.env)).any (·.1)=false:=by rfl):PEf X G (.Call (.Name "list" p) (e::es) [] pos) (zNB fs):=
 PE.wk (zCc zDe hg hm hv ha (by decide) (by decide) he hpl) fun σ H Q q=>by
 obtain⟨ρ,Hi,R,ou⟩:=q;refine zKh R ou fun vs ds Hi1 H1 e1 R1 r1 o1=>?_
 split at o1
 ·obtain⟨v,rfl,h⟩:=r1.one
  obtain⟨a,xs,rfl,h1,h2⟩:=h.lstI;exact⟨a,xs,rfl,.inl (dB R1.s h1),fun l hl=>o1 _ _ (Ext.newF R1.s hl) l ⟨e1.h.none hl,R1.s.none hl,xs,aY,h2⟩⟩
 ·obtain⟨v,rfl,h⟩:=r1.one
  obtain⟨a,xs,rfl,h1,h2⟩:=h.tupI;exact⟨a,xs,rfl,.inr (cG R1.s h1),fun l hl=>o1 _ _ (Ext.newF R1.s hl) l ⟨e1.h.none hl,R1.s.none hl,xs,aY,h2⟩⟩
 ·exact o1.elim
structure Kit (K:PySem.W.Frag) (T:String):Prop where
 non:PySem.W.kitOne K (.type "NoneType") (.type T)=some (isT T .non)
 bl:PySem.W.kitOne K (.type "bool") (.type T)=some (isT T (.bl true))
 int:PySem.W.kitOne K (.type "int") (.type T)=some (isT T (.int 0))
 str:PySem.W.kitOne K (.type "str") (.type T)=some (isT T (.str ⟨#[]⟩))
 tup:PySem.W.kitOne K (.type "tuple") (.type T)=some (isT T (.tup []))
 lst:PySem.W.kitOne K (.type "list") (.type T)=some (isT T (.lst []))
theorem zPj(k:Kit X.K T):tP X (.builtin "isinstance") (fun xs H Q=>∃ y d,xs=[y,.ty T]/\IsD X.K H y d/\Q (.bl (isT T d)) H):=by
 intro pins s σ H xs us Q I r h;obtain⟨y,d,rfl,hd,q⟩:=h;obtain⟨u,w',rfl,rx,rc⟩:=zRn r;cases rc;have fin:∀ tk,EP X pins σ Q (.bool (isT T d)) { s with toks:=tk }:=fun tk=>⟨.bl _,H,I.tok _,rfl,q⟩
 cases hd with
 | non=>cases (show u=Value.none from rx);exact V0 PySem.W.kitx_none I.kIn True.intro k.non (fun z=>nomatch z) fin
 | bl y=>cases (show u=Value.bool y from rx);exact V0 PySem.W.kitx_bool I.kIn True.intro k.bl (fun z=>nomatch z) fin
 | int i=>obtain⟨t,q⟩:=(show ∃ t,u=Value.int i t from rx);cases q;exact V0 PySem.W.kitx_int I.kIn True.intro k.int (fun z=>nomatch z) fin
 | str y=>obtain⟨t,q⟩:=(show ∃ t,u=Value.str y t from rx);cases q;exact V0 PySem.W.kitx_str I.kIn True.intro k.str (fun z=>nomatch z) fin
 | @tup a xs ds h hs=>
  cases (show u=Value.ref a from rx)
  obtain⟨its,rv,⟨o,h1,h2,_⟩,hz⟩:=I.tuple h;exact V0 PySem.W.kitx_tuple I.kIn ⟨o,h1,h2⟩ k.tup (fun z=>nomatch z) fin
 | @lst a xs ds h hs=>
  cases (show u=Value.ref a from rx)
  obtain⟨its,rv,⟨o,n,h1,h2,_⟩,hz⟩:=I.list h;exact V0 PySem.W.kitx_list I.kIn ⟨o,h1,h2⟩ k.lst (fun z=>nomatch z) fin
theorem yW{c:Expr}(k:Kit X.K T)(hg:Gl X "isinstance")(hm:X.mg "isinstance" = none)(ha:PEd X G a f)(hc:PE X c (tC (.ty T)))
  (h1:starEach [a,c] X.env=(false,eval a X.env)::starEach [c] X.env:=by rfl) (h2:starEach [c] X.env=(false,eval c X.env)::starEach [] X.env:=by rfl) (hpl:(backTo pos (starEach [c] X.env)).any (·.1)=false:=by rfl):
  PEd X G (.Call (.Name "isinstance" p) [a,c] [] pos) (zMm T f):=
 PE.wk (zI (zPj k) hg hm boot_isinstance (lK ha (lK hc tH h2) h1) (by decide) (by decide) h1 hpl) fun σ H Q q=>by
 obtain⟨ρ,Hi,R,ou⟩:=q;refine zDT R ou fun v d Hi1 H1 e1 R1 r1 o1=>?_
 exact⟨v,d,rfl,r1.mono R1.s,o1.here R1.s _ (.bl _)⟩
variable{lo hi:Option Expr}{l h:Ov}{p2:Pos}
def tOv(X:Cx)(G:Gx)(f:Ov):TO:=fun σ H Q=>∃ ρ Hi,lU X G Hi H σ ρ/\Out G Hi H (f ρ) fun o _ H'=>Q o H'
@[irreducible] def POd (X:Cx) (G:Gx) (e:Option Expr) (f:Ov):Prop:=PO X e (tOv X G f)
unseal POd
theorem PO.wk{X:Cx}{e:Option Expr}{t t':TO}(h:PO X e t)(w:∀ σ H Q,t' σ H Q->t σ H Q):PO X e t':=fun pins s σ H Q I q=>h pins s σ H Q I (w σ H Q q)
theorem sK:POd X G none oN:=PO.wk zOs fun σ H Q q=>by
 obtain⟨ρ,Hi,R,ou⟩:=q;exact ou.here R.s
theorem nJ(he:PEd X G e f):POd X G (some e) (oS f):=PO.wk (zNz he) fun σ H Q q=>by
 obtain⟨ρ,Hi,R,ou⟩:=q;refine zDT R ou fun v d Hi1 H1 e1 R1 r1 o1=>?_
 cases d with
 | int i=>exact⟨i,r1.intI,o1.here R1.s⟩
 | _=>exact o1.elim
theorem zSs{f:Ov}{Hi H:Hp}{σ:St}{ρ:Rho}{β:Type}{k:Option Int->Res β}{k':β->Hp->Hp->Prop}{Q:Option Int->Hp->Prop}(R:lU X G Hi H σ ρ)(o:Out G Hi H ((f ρ).bind k) k')
  (w:∀ c Hi' H',Ext Hi H Hi' H'->lU X G Hi' H' σ ρ->Out G Hi' H' (k c) k'->Q c H'):tOv X G f σ H Q:=
 ⟨ρ,Hi,R,o.bind.imp fun d Hi' H' e q=>w d Hi' H' e (R.grow e) q⟩
theorem zII(n d:Nat)(i:Option Int):cut n i d=HT.sIx n d i:=by
 cases i with
 | none=>rfl
 | some i=>
  simp only[cut,HT.sIx];split<;>split<;>omega
theorem IsDs.cut{K:Fg_}{H:Hp}{xs:List V}{ds:List D}(h:IsDs K H xs ds)(l r:Option Int):IsDs K H (zON xs l r) (gA ds l r):=by
 unfold zON gA;rw[zII,zII,h.length];exact(h.drop _).take _
theorem lG(he:PEd X G e f)(hl:POd X G lo l)(hu:POd X G hi h):PEf X G (.Subscript e (.Slice lo hi none p2) pos) (fSl f l h):=PE.wk (zKu zNL he hl hu) fun σ H Q q=>by
 obtain⟨ρ,Hi,R,ou⟩:=q;refine zDT R ou fun v d Hi1 H1 e1 R1 r1 o1=>?_
 refine zSs R1 o1 fun i Hi2 H2 e2 R2 o2=>?_
 refine zSs R2 o2 fun j Hi3 H3 e3 R3 o3=>?_
 cases d with
 | lst ds=>
  obtain⟨a,xs,rfl,h1,h2⟩:=r1.lstI;refine⟨a,xs,rfl,dB (e2.i.trans (e3.i.trans R3.s)) h1,fun p hp=>?_⟩
  exact o3 _ _ (Ext.newF R3.s hp) p ⟨(e1.h.trans (e2.h.trans e3.h)).none hp,R3.s.none hp,_,aY,(h2.cut i j).mono (e2.i.trans e3.i)⟩
 | _=>exact o3.elim
def zRZ(K:PySem.W.Frag):R2:=fun x y H Q=>∃ l b xs zs,x=.ref l/\y=.ref b/\SqL K H l xs/\SqL K H b zs/\xs.length+zs.length<=sizeLine/\∀ p,H p=none->Q (.ref p) (upd H p (.lst (xs++zs)))
theorem zNO:OpR X (binaryOp .Add) (zRZ X.K):=by
 intro pins s σ H x y v u Q I rx ry h;obtain⟨l,b,xs,zs,rfl,rfl,hl,hb,hz,q⟩:=h;cases rx;cases ry;obtain⟨its,r,p,_⟩:=I.list hl;obtain⟨its2,r2,p2,_⟩:=I.list hb;obtain⟨⟨cls,dd,data,sl⟩,ho,hc,n,hd⟩:=id p.isList;obtain⟨⟨cls2,dd2,data2,sl2⟩,ho2,hc2,n2,hd2⟩:=id p2.isList;simp only at hc hd hc2 hd2
 subst hc hd hc2 hd2;have hsz:its.toArray.size+its2.toArray.size<=sizeLine:=by rw[Qk,Qk,<-r.length,<-r2.length];exact hz
 have e:its.toArray++its2.toArray=(its++its2).toArray:=by simp
 refine concat_meets ⟨_,ho,rfl⟩ ⟨_,ho2,rfl⟩ noFill_list_add seq_list_add PySem.F.slot_list_add PySem.F.entry_list_add (PySem.F.args_list_add_2 _ _) (list_addW l b its.toArray its2.toArray n n2 dd dd2 sl sl2 hsz) ⟨ho,ho2,?_⟩
 rw[e];exact⟨.ref _,_,I.lnew (t':=s.toks) (r.append r2) (by rw[Qm];exact hz),rfl,q _ I.fresh⟩
theorem zJb(ha:PEd X G a f)(hb:PEd X G b g):PEf X G (.BinOp a .Add b pos) (zMM f g):=PE.wk (zJF zNO ha hb) fun σ H Q q=>by
 obtain⟨ρ,Hi,R,ou⟩:=q;refine zDT R ou fun v d Hi1 H1 e1 R1 r1 o1=>?_
 refine zDT R1 o1 fun w d' Hi2 H2 e2 R2 r2 o2=>?_
 cases d<;>first | exact o2.elim | skip
 cases d'<;>first | exact o2.elim | skip
 rename_i ds es
 obtain⟨a,xs,rfl,h1,h2⟩:=r1.lstI;obtain⟨b,ys,rfl,h3,h4⟩:=r2.lstI;have o2':Out G Hi2 H2 (if ds.length+es.length<=16777216 then Res.ok (ds++es) else .no) _:=o2;by_cases hz:ds.length+es.length<=16777216
 ·rw[if_pos hz] at o2'
  refine⟨a,b,xs,ys,rfl,rfl,dB (e2.i.trans e2.s) h1,dB e2.s h3,by rw[h2.length,h4.length];exact hz,fun p hp=>?_⟩
  exact o2' _ _ (Ext.newF e2.s hp) p ⟨(e1.h.trans e2.h).none hp,e2.s.none hp,_,aY,(h2.mono e2.i).append h4⟩
 ·rw[if_neg hz] at o2';exact o2'.elim
end
end L3
namespace L3
open PySem PySem.Spec PyProof.Rows L2
unseal PEd PEf PTd PWd PAd PSd fB POd
section
variable{X:Cx}{G:Gx}{a b e:Expr}{es:List Expr}{pos p:Pos}{f g:Ev}{fs gs:Fv}{t u:Tv}{x:Str}{st:Stmt}{rest:List Stmt}{sa sb:Sv}
theorem oI{Hi H:Hp}{σ:St}{ρ:Rho}{E:Ends}{α:Type}{r:Res α}{k:α->Res Fl}(R:lU X G Hi H σ ρ)(h:Fin X G Hi E (r.bind k)){Q:α->Hp->Hp->Prop}
  (w:∀ a Hi' H',r=.ok a->Ext Hi H Hi' H'->Fin X G Hi' E (k a)->Q a Hi' H'):Out G Hi H r Q:=by
 cases r with
 | no=>exact h
 | err c=>exact fun Hi' H' e=>h Hi' H' (R.ext.trans e)
 | ok a=>exact fun Hi' H' e=>w a Hi' H' rfl e (Fin.mono (show Fin X G Hi E (k a) from h) e.i)
theorem bF:fB X G [] sNext:=PSs.wk zJn fun E σ H q=>by
 obtain⟨ρ,Hi,R,h⟩:=q;exact h σ Hi H (Same.refl _) R
theorem zPf{E:Ends}{Hi:Hp}{ρ:Rho}(h:Fin X G Hi E (aX sa sb ρ)):Fin X G Hi { E with nx:=tS X G sb E } (sa ρ):=by
 unfold aX at h
 cases z:sa ρ with
 | no=>rw[z] at h;exact h
 | err c=>rw[z] at h;exact h
 | ok fl=>
  rw[z] at h
  cases fl with
  | nx ρ'=>exact fun σ' Hi' H' s R'=>⟨ρ',Hi',R',Fin.mono (show Fin X G Hi E (sb ρ') from h) s⟩
  | brk ρ'=>exact h
  | ctn ρ'=>exact h
  | ret r=>cases r<;>exact h
theorem zPW{E:Ends}{σ:St}{H:Hp}(q:tS X G (aX sa sb) E σ H):tS X G sa { E with nx:=tS X G sb E } σ H:=by
 obtain⟨ρ,Hi,R,h⟩:=q;exact⟨ρ,Hi,R,zPf h⟩
theorem aF(h1:PSd X G st sa)(h2:fB X G rest sb):fB X G (st::rest) (aX sa sb):=PSs.wk (tZ h1 h2) fun _ _ _ q=>zPW q
theorem aK(h1:PSd X G st sa):fB X G [st] sa:=zBL h1
theorem oO(he:PEd X G e f)(hs:swapsWith e none pos.line X.env=pure false:=by rfl):PSd X G (.Expr e pos) (tX f):=PS.wk (zBh he hs) fun E σ H q=>by
 obtain⟨ρ,Hi,R,h⟩:=q;exact⟨ρ,Hi,R,oI R h fun d Hi' H' _ e h' v r=>h' σ Hi' H' (Same.refl _) (R.grow e)⟩
theorem bR(he:PEd X G e f):PSd X G (.Return (some e) pos) (fR f):=PS.wk (zFY he) fun E σ H q=>by
 obtain⟨ρ,Hi,R,h⟩:=q;obtain⟨Hf,s1,R1,fl⟩:=R.frz;refine⟨ρ.map Sl.frz,Hf,R1,oI R1 (Fin.mono h s1) fun d Hi' H' _ e h' v r=>?_⟩
 exact h' v Hi' H' (R1.ext.trans e) r
theorem eA(he:PEf X G e fs):PSd X G (.Return (some e) pos) (iF fs):=PS.wk (zFY he) fun E σ H q=>by
 obtain⟨ρ,Hi,R,h⟩:=q;obtain⟨Hf,s1,R1,fl⟩:=R.frz;refine⟨ρ.map Sl.frz,Hf,R1,oI R1 (Fin.mono h s1) fun ds Hi' H' _ e h' a n=>?_⟩
 obtain⟨n1,n2,xs,n3,n4⟩:=n;exact h' a Hi' H' (R1.ext.trans e) ⟨R1.ext.h.none n1,n2,xs,n3,n4⟩
theorem gZ(i:Nat)(he:PE X e (zFO i)):PSd X G (.Return (some e) pos) (fU i):=PS.wk (zFY he) fun E σ H q=>by
 obtain⟨ρ,Hi,R,h⟩:=q;unfold fU at h
 cases z:ρ[i]? with
 | none=>rw[z] at h;exact h.elim
 | some s=>
  rw[z] at h
  cases s with
  | own ds=>
   obtain⟨a,xs,p,h1,h2,h3,h4⟩:=R.slot i _ z;exact⟨.ref a,p,h a Hi H R.ext ⟨h3,h2,xs,h1,h4⟩⟩
  | un=>exact h.elim
  | val d=>exact h.elim
  | exc c=>exact h.elim
  | tab T=>exact h.elim
theorem hU{c:Expr}{as bs:List Stmt}(hc:PTd X G c t)(ha:fB X G as sa)(hb:fB X G bs sb):PSd X G (.If c as bs pos) (sIf t sa sb):=PS.wk (zPv hc ha hb) fun E σ H q=>by
 obtain⟨ρ,Hi,R,h⟩:=q;refine⟨ρ,Hi,R,oI R h fun c Hi' H' _ e h'=>?_⟩
 cases c with
 | true=>exact⟨ρ,Hi',R.grow e,h'⟩
 | false=>exact⟨ρ,Hi',R.grow e,h'⟩
theorem bB{i:Nat}{pos':Pos}(hN:X.N.Nodup)(hi:X.N[i]?=some x)(hx:Loc X.env.scope x)(he:PEd X G e f)(hs:swapsWith e (some (.Name x pos')) pos.line X.env=pure false:=by rfl)
  (hf:X.fn x=true∨X.env.scope.names.lookup x=some .local:=by first | exact .inl rfl | exact .inr rfl | assumption):PSd X G (.Assign [.Name x pos'] e pos) (cW i f):=PS.wk (zLN hN hi hx he hs hf) fun E σ H q=>by
 obtain⟨ρ,Hi,R,h⟩:=q;exact⟨ρ,Hi,R,oI R h fun d Hi' H' _ e h' v r=>h' _ Hi' H' (Same.refl _) ((R.grow e).set r)⟩
theorem pM{i:Nat}{pos':Pos}(hN:X.N.Nodup)(hi:X.N[i]?=some x)(hx:Loc X.env.scope x)(he:PEf X G e fs)(hs:swapsWith e (some (.Name x pos')) pos.line X.env=pure false:=by rfl)
  (hf:X.fn x=true∨X.env.scope.names.lookup x=some .local:=by first | exact .inl rfl | exact .inr rfl | assumption):PSd X G (.Assign [.Name x pos'] e pos) (zBc i fs):=PS.wk (zLN hN hi hx he hs hf) fun E σ H q=>by
 obtain⟨ρ,Hi,R,h⟩:=q;refine⟨ρ,Hi,R,oI R h fun ds Hi' H' _ e h' a n=>?_⟩
 obtain⟨n1,n2,xs,n3,n4⟩:=n;exact h' _ Hi' H' (Same.refl _) (R.setOwn e n1 n3 n2 n4)
theorem yA{i:Nat}{o:Expr}{apos cpos:Pos}(ho:PE X o (zFO i))(he:PEd X G e f)
  (hbase:attributeBase o "append" X.env (eval o X.env)=eval o X.env:=by rfl)
  (hfew:((backTo cpos (starEach [e] X.env)).all (fun x=>!x.1) && (backToKw cpos (keywordEach [] X.env)).all (fun x=>x.1.isSome)
   && decide ([e].length+([]:List Keyword).length+(if ([]:List Keyword).isEmpty then 0 else 1)<30))=true:=by rfl)
  (hline:(apos.endLine==cpos.line)=true:=by rfl) (hs:starEach [e] X.env=(false,eval e X.env)::starEach [] X.env:=by rfl)
  (hsw:swapsWith (.Call (.Attribute o "append" apos) [e] [] cpos) none pos.line X.env=pure false:=by rfl):
  PSd X G (.Expr (.Call (.Attribute o "append" apos) [e] [] cpos) pos) (zFl i f):=
 PS.wk (zBh (zQa XY PySem.F.slot_list_append PySem.F.type_list_append uQ ho (lK he tH hs) hbase hfew hline hs) hsw) fun E σ H q=>by
 obtain⟨ρ,Hi,R,h⟩:=q;unfold zFl at h
 cases z:ρ[i]? with
 | none=>rw[z] at h;exact h.elim
 | some s=>
  rw[z] at h
  cases s with
  | own ds=>
   obtain⟨a,xs,p,h1,h2,h3,h4⟩:=R.slot i _ z;refine⟨.ref a,p,.inl ⟨rfl,xs,SqL.of h1⟩,?_⟩
   refine⟨ρ,Hi,R,oI R h fun d Hi' H' _ e h' v r=>?_⟩
   have R':=R.grow e;obtain⟨g1,g2⟩:=e.out h1 h2;by_cases hz:ds.length<16777216
   ·rw[if_pos hz] at h'
    refine⟨a,xs,v,rfl,rfl,g1,by rw[h4.length];exact hz,?_⟩
    exact h' σ Hi' _ (Same.refl _) (R'.write z p ((h4.mono e.i).append (.cons r .nil)))
   ·rw[if_neg hz] at h';exact h'.elim
  | un=>exact h.elim
  | val d=>exact h.elim
  | exc c=>exact h.elim
  | tab T=>exact h.elim
theorem zRY{i:Nat}{o:Expr}{apos cpos:Pos}(ho:PE X o (zFO i))
  (hbase:attributeBase o "pop" X.env (eval o X.env)=eval o X.env:=by rfl) (hline:(apos.endLine==cpos.line)=true:=by rfl)
  (hsw:swapsWith (.Call (.Attribute o "pop" apos) [] [] cpos) none pos.line X.env=pure false:=by rfl):
  PSd X G (.Expr (.Call (.Attribute o "pop" apos) [] [] cpos) pos) (zPh i):=
 PS.wk (zBh (zQN XY PySem.F.slot_list_pop PySem.F.type_list_pop zPe ho hbase hline) hsw) fun E σ H q=>by
 obtain⟨ρ,Hi,R,h⟩:=q;unfold zPh at h
 cases z:ρ[i]? with
 | none=>rw[z] at h;exact h.elim
 | some s=>
  rw[z] at h
  cases s with
  | own ds=>
   obtain⟨a,xs,p,h1,h2,h3,h4⟩:=R.slot i _ z;refine⟨.ref a,p,.inl ⟨rfl,xs,SqL.of h1⟩,?_⟩
   have h:Fin X G Hi E (if ds.length=0 then Res.no else Res.ok (Fl.nx (ρ.set i (.own ds.dropLast)))):=h;by_cases hz:ds.length=0
   ·rw[if_pos hz] at h;exact h.elim
   ·rw[if_neg hz] at h
    have hl:=h4.length;refine⟨a,xs,xs[xs.length-1]'(by omega),rfl,rfl,h1,Ql (by omega),?_⟩
    exact h σ Hi _ (Same.refl _) (R.write z p h4.dropLast)
  | un=>exact h.elim
  | val d=>exact h.elim
  | exc c=>exact h.elim
  | tab T=>exact h.elim
theorem zJK{i:Nat}{o:Expr}{apos cpos:Pos}(ho:PE X o (zFO i))(he:PEf X G e fs)
  (hbase:attributeBase o "extend" X.env (eval o X.env)=eval o X.env:=by rfl)
  (hfew:((backTo cpos (starEach [e] X.env)).all (fun x=>!x.1) && (backToKw cpos (keywordEach [] X.env)).all (fun x=>x.1.isSome)
   && decide ([e].length+([]:List Keyword).length+(if ([]:List Keyword).isEmpty then 0 else 1)<30))=true:=by rfl)
  (hline:(apos.endLine==cpos.line)=true:=by rfl) (hs:starEach [e] X.env=(false,eval e X.env)::starEach [] X.env:=by rfl)
  (hsw:swapsWith (.Call (.Attribute o "extend" apos) [e] [] cpos) none pos.line X.env=pure false:=by rfl):
  PSd X G (.Expr (.Call (.Attribute o "extend" apos) [e] [] cpos) pos) (zKN i fs):=
 PS.wk (zBh (zQa XY PySem.F.slot_list_extend PySem.F.type_list_extend zIc ho (lK he tH hs) hbase hfew hline hs) hsw) fun E σ H q=>by
 obtain⟨ρ,Hi,R,h⟩:=q;unfold zKN at h
 cases z:ρ[i]? with
 | none=>rw[z] at h;exact h.elim
 | some s=>
  rw[z] at h
  cases s with
  | own ds=>
   obtain⟨a,xs,p,h1,h2,h3,h4⟩:=R.slot i _ z;refine⟨.ref a,p,.inl ⟨rfl,xs,SqL.of h1⟩,?_⟩
   refine⟨ρ,Hi,R,oI R h fun es Hi' H' _ e h' b n=>?_⟩
   obtain⟨n1,n2,ys,n3,n4⟩:=n;have R':=R.grow e;obtain⟨g1,g2⟩:=e.out h1 h2;by_cases hz:ds.length+es.length<=16777216
   ·rw[if_pos hz] at h'
    refine⟨a,b,xs,ys,rfl,rfl,g1,n3,by rw[h4.length,n4.length];exact hz,?_⟩
    exact h' σ Hi' _ (Same.refl _) (R'.write z p ((h4.mono e.i).append n4))
   ·rw[if_neg hz] at h';exact h'.elim
  | un=>exact h.elim
  | val d=>exact h.elim
  | exc c=>exact h.elim
  | tab T=>exact h.elim
theorem zRm{i:Nat}{o k:Expr}{fk:Ev}{tpos:Pos}(ho:PE X o (zFO i))(hk:PEd X G k fk)(he:PEd X G e f)(hs:swapsWithSole [.Subscript o k tpos] e pos.line X.env=pure false:=by rfl)(hw:swappedStores [.Subscript o k tpos] e X.env=pure none:=by rfl)
  (h1:(assignEach [.Subscript o k tpos] X.env).map (·.2)=[assign (.Subscript o k tpos) X.env]:=by rfl)
  (ha:∀ v,assign (.Subscript o k tpos) X.env v=(do
   let ov <-holding [v] (eval o X.env)
   let iv <-holding [v,ov] (eval k X.env)
   standAt tpos
   holding [v,ov,iv] (setItem ov iv v)
   release [v,ov,iv] []):=by intro _;rfl):PSd X G (.Assign [.Subscript o k tpos] e pos) (zRg i fk f):=
 PS.wk (zQq he (zQE ho hk zLe ha) hs hw h1) fun E σ H q=>by
 obtain⟨ρ,Hi,R,h⟩:=q;refine⟨ρ,Hi,R,oI R h fun d Hi1 H1 _ e1 h1 v r=>?_⟩
 have R1:=R.grow e1
 cases z:ρ[i]? with
 | none=>rw[z] at h1;exact h1.elim
 | some s=>
  rw[z] at h1
  cases s with
  | own ds=>
   obtain⟨a,xs,p,g1,g2,g3,g4⟩:=R1.slot i _ z;refine⟨.ref a,p,?_⟩
   refine⟨ρ,Hi1,R1,oI R1 h1 fun j Hi2 H2 _ e2 h2 w rw'=>?_⟩
   have R2:=R1.grow e2;obtain⟨k1,k2⟩:=e2.out g1 g2
   cases j with
   | int j=>
    have hl:=g4.length;have h2':Fin X G Hi2 E (if 0<=j/\j<ds.length then Res.ok (.nx (ρ.set i (.own (ds.set j.toNat d)))) else if -(ds.length:Int)<=j/\j<0 then .ok (.nx (ρ.set i (.own (ds.set (j+ds.length).toNat d)))) else .no):=h2;by_cases c1:0<=j/\j<ds.length
    ·rw[if_pos c1] at h2'
     refine⟨a,xs,j,j.toNat,rfl,rw'.intI,k1,by unfold ixN;rw[if_pos c1.1,if_pos (by omega)],?_⟩
     exact h2' σ Hi2 _ (Same.refl _) (R2.write z p ((g4.mono e2.i).set (r.mono e2.i) j.toNat))
    ·rw[if_neg c1] at h2'
     by_cases c2:-(ds.length:Int)<=j/\j<0
     ·rw[if_pos c2] at h2'
      refine⟨a,xs,j,(j+ds.length).toNat,rfl,rw'.intI,k1,by unfold ixN;rw[if_neg (by omega),if_pos (by omega),hl],?_⟩
      exact h2' σ Hi2 _ (Same.refl _) (R2.write z p ((g4.mono e2.i).set (r.mono e2.i) (j+ds.length).toNat))
     ·rw[if_neg c2] at h2';exact h2'.elim
   | _=>exact h2.elim
  | un=>exact h1.elim
  | val d=>exact h1.elim
  | exc c=>exact h1.elim
  | tab T=>exact h1.elim
theorem zHd{i:Nat}{op:Operator}{o:Op2}{r:Int->Int->Int}{pos':Pos}(hN:X.N.Nodup)(hi:X.N[i]?=some x)(hx:Loc X.env.scope x)(he:PEd X G e f)(ho:PIp X op (ipI r))(hr:∀ a b d,o a b=.ok d->∃ i j,a=.int i/\b=.int j/\d=.int (r i j))(hn:∀ a b c,o a b≠.err c)
  (hf:X.fn x=true∨X.env.scope.names.lookup x=some .local:=by first | exact .inl rfl | exact .inr rfl | assumption):PSd X G (.AugAssign (.Name x pos') op e pos) (zKm i o f):=PS.wk (zQm hN hi hx he ho hf) fun E σ H q=>by
 obtain⟨ρ,Hi,R,h⟩:=q;unfold zKm at h
 cases z:ρ[i]? with
 | none=>rw[z] at h;exact h.elim
 | some s=>
  rw[z] at h
  cases s with
  | val d=>
   obtain⟨v,p,rv⟩:=R.slot i _ z;refine⟨v,p,ρ,Hi,R,oI R h fun d' Hi' H' _ e h' w rw'=>?_⟩
   cases q:o d d' with
   | no=>rw[q] at h';exact h'.elim
   | err c=>exact absurd q (hn _ _ _)
   | ok u=>
    rw[q] at h';obtain⟨i',j',rfl,rfl,rfl⟩:=hr _ _ _ q;exact⟨i',j',rv.intI,rw'.intI,h' _ Hi' H' (Same.refl _) ((R.grow e).set (.int _))⟩
  | un=>exact h.elim
  | own ds=>exact h.elim
  | exc c=>exact h.elim
  | tab T=>exact h.elim
theorem fB.frzAt(i:Nat){sts:List Stmt}(h:fB X G sts sa):fB X G sts (sFrzAt i sa):=PSs.wk h fun E σ H q=>by
 obtain⟨ρ,Hi,R,h⟩:=q;obtain⟨Hi',s,R'⟩:=R.frzAt (i:=i);exact⟨_,Hi',R',Fin.mono h s⟩
def tGv(X:Cx)(G:Gx)(g:Gv):TG:=fun v σ H Q=>∃ d ρ Hi,IsD X.K Hi v d/\lU X G Hi H σ ρ/\∃ ρ',g d ρ=.ok ρ'/\∀ σ' Hi' H',Same Hi Hi'->lU X G Hi' H' σ' ρ'->Q σ' H'
@[irreducible] def PGd (X:Cx) (G:Gx) (e:Expr) (g:Gv):Prop:=PG X e (tGv X G g)
unseal PGd
theorem dO{i:Nat}(hN:X.N.Nodup)(hi:X.N[i]?=some x)(hx:Loc X.env.scope x)(hf:X.fn x=true∨X.env.scope.names.lookup x=some .local:=by first | exact .inl rfl | exact .inr rfl | assumption):PGd X G (.Name x pos) (gName i):=
 fun pins s σ H v u Q I r q=>vY hN hi hx hf pins s σ H v u Q I r (by
  obtain⟨d,ρ,Hi,rd,R,ρ',e,k⟩:=q;cases e
  exact k _ Hi H (Same.refl _) (R.set rd))
def zSN(X:Cx)(G:Gx)(g:List D->Rho->Res Rho):TGs:=fun vs σ H Q=>∃ ds ρ Hi,IsDs X.K Hi vs ds/\lU X G Hi H σ ρ/\∃ ρ',g ds ρ=.ok ρ'/\∀ σ' Hi' H',Same Hi Hi'->lU X G Hi' H' σ' ρ'->Q σ' H'
@[irreducible] def jQ (X:Cx) (G:Gx) (es:List Expr) (g:List D->Rho->Res Rho):Prop:=PGs X es (zSN X G g)
unseal jQ
theorem zLM:jQ X G [] zHv:=fun pins s σ H vs us Q I r q=>zDV pins s σ H vs us Q I r (by
  obtain⟨ds,ρ,Hi,rd,R,ρ',e,k⟩:=q
  cases ds with
  | nil=>cases rd;cases e;exact⟨rfl,k _ Hi H (Same.refl _) R⟩
  | cons d ds=>cases e)
theorem zAc{g:Gv}{r:List D->Rho->Res Rho}(h1:PGd X G e g)(h2:jQ X G es r)(hs:(assignEach (e::es) X.env).map (·.2)=assign e X.env::(assignEach es X.env).map (·.2):=by rfl):jQ X G (e::es) (oH g r):=
 fun pins s σ H vs us Q I rr q=>qI h1 h2 hs pins s σ H vs us Q I rr (by
  obtain⟨ds,ρ,Hi,rd,R,ρ',e,k⟩:=q
  cases ds with
  | nil=>cases e
  | cons d ds=>
   cases rd with
   | cons rd rds=>
    refine⟨_,_,rfl,d,ρ,Hi,rd,R,?_⟩
    have e':(g d ρ).bind (fun ρ'=>r ds ρ')=.ok ρ':=e
    cases z:g d ρ with
    | no=>rw[z] at e';cases e'
    | err c=>rw[z] at e';cases e'
    | ok ρ1=>
     rw[z] at e'
     exact⟨ρ1,rfl,fun σ1 Hi1 H1 s1 R1=>⟨ds,ρ1,Hi1,rds.mono s1,R1,ρ',e',fun σ2 Hi2 H2 s2 R2=>k σ2 Hi2 H2 (s1.trans s2) R2⟩⟩)
theorem zQk{k:Nat}{r:List D->Rho->Res Rho}{n:Nat}(hc:X.calm=true)(h:jQ X G es r)(hr:∀ ds ρ ρ',r ds ρ=.ok ρ'->ds.length=n)(hn:(assignEach es X.env).length=n:=by rfl)(hst:(assignEach es X.env).findIdx? (·.1)=none:=by rfl):PGd X G (.Tuple es k pos) (zIY r):=
 fun pins s σ H v u Q I rr q=>zJY hc h hn hst pins s σ H v u Q I rr (by
  obtain⟨d,ρ,Hi,rd,R,ρ',e,kk⟩:=q
  cases d with
  | tup ds=>
   obtain⟨a,xs,rfl,h1,h2⟩:=rd.tupI;exact⟨a,xs,rfl,cG R.s h1,by rw[h2.length];exact hr ds ρ ρ' e,ds,ρ,Hi,h2,R,ρ',e,kk⟩
  | _=>cases e)
def xQ(K:PySem.W.Frag)(Hi:Hp)(J:It)(ds:List D):Prop:=∀(Hi1 H1:Hp),Same Hi Hi1->Same Hi1 H1->∀ i,
 (ds.length<=i->J.stop i H1)/\∀ d,ds[i]?=some d->J.go i H1/\∀ x H2,J.yld i H1 x H2->∃ Hi2,Ext Hi1 H1 Hi2 H2/\IsD K Hi2 x d
def tIv(X:Cx)(G:Gx)(f:Fv):TI:=fun σ H R=>∃ ρ Hi,lU X G Hi H σ ρ/\Out G Hi H (f ρ) fun ds Hi' H'=>∀ J,xQ X.K Hi' J ds->R J H'
@[irreducible] def PId (X:Cx) (G:Gx) (tg e:Expr) (f:Fv):Prop:=PI X tg e (tIv X G f)
unseal PId
theorem PI.wk{tg:Expr}{t t':TI}(h:PI X tg e t)(w:∀ σ H Q,t' σ H Q->t σ H Q):PI X tg e t':=fun pins s σ H Q I q=>h pins s σ H Q I (w σ H Q q)
theorem zLQ{g:Gv}{J:It}{ds:List D}{Hi1 H1:Hp}{σ:St}{ρ:Rho}{E:Ends}(hge:∀ d ρ c,g d ρ≠.err c)(R1:lU X G Hi1 H1 σ ρ)(h1:Fin X G Hi1 E (fS g sa ds ρ))(gv:xQ X.K Hi1 J ds):zSj (fun _ _ R=>R J H1) (tGv X G g) (tS X G sa) E σ H1:=by
 refine⟨fun i m σ' H'=>m=ds.length-i/\∃ ρ' Hi',Same Hi1 Hi'/\lU X G Hi' H' σ' ρ'/\Fin X G Hi' E (fS g sa (ds.drop i) ρ'),⟨_,rfl,ρ,Hi1,Same.refl _,R1,h1⟩,?_⟩
 rintro i m σ' H' ⟨rfl,ρ',Hi',s',R',h'⟩
 obtain⟨w1,w2⟩:=gv Hi' H' s' R'.s i;by_cases hl:i<ds.length
 ·obtain⟨d,hd⟩:∃ d,ds[i]?=some d:=⟨_,Ql hl⟩
  obtain⟨go,yl⟩:=w2 d hd
  have e3:ds.drop i=d::ds.drop (i+1):=by
   rw[Ql hl] at hd;cases hd;exact V3 hl
  rw[e3] at h';refine .inr ⟨go,fun σ2 H2=>∃ ρ2 Hi2,Same Hi1 Hi2/\lU X G Hi2 H2 σ2 ρ2/\Fin X G Hi2 E (fS g sa (ds.drop (i+1)) ρ2),fun σ2 H2 z=>⟨ds.length-(i+1),by omega,rfl,z⟩,fun x H2 y=>?_⟩
  obtain⟨Hi2,e2,r2⟩:=yl x H2 y;have R2:=R'.grow e2
  have h2:Fin X G Hi2 E ((g d ρ').bind fun ρ1=>(sa ρ1).bind fun f=>match f with
   | .nx ρ2=>fS g sa (ds.drop (i+1)) ρ2
   | .ctn ρ2=>fS g sa (ds.drop (i+1)) ρ2
   | .brk ρ2=>.ok (.nx ρ2)
   | .ret r=>.ok (.ret r)):=Fin.mono h' e2.i
  cases z:g d ρ' with
  | no=>rw[z] at h2;exact h2.elim
  | err c=>exact absurd z (hge _ _ _)
  | ok ρ1=>
   rw[z] at h2;refine⟨d,ρ',Hi2,r2,R2,ρ1,z,fun σ3 Hi3 H3 s3 R3=>⟨ρ1,Hi3,R3,?_⟩⟩
   have h3:=Fin.mono h2 s3;have sm:Same Hi1 Hi3:=(s'.trans e2.i).trans s3;simp only[Res.bind] at h3
   cases zb:sa ρ1 with
   | no=>rw[zb] at h3;exact h3.elim
   | err c=>rw[zb] at h3;exact h3
   | ok fl=>
    rw[zb] at h3
    cases fl with
    | nx ρ2=>exact fun σ4 Hi4 H4 s4 R4=>⟨ρ2,Hi4,sm.trans s4,R4,Fin.mono (show Fin X G Hi3 E (fS g sa (ds.drop (i+1)) ρ2) from h3) s4⟩
    | ctn ρ2=>exact fun σ4 Hi4 H4 s4 R4=>⟨ρ2,Hi4,sm.trans s4,R4,Fin.mono (show Fin X G Hi3 E (fS g sa (ds.drop (i+1)) ρ2) from h3) s4⟩
    | brk ρ2=>exact h3
    | ret r=>cases r<;>exact h3
 ·rw[VN (by omega)] at h'
  exact .inl ⟨w1 (by omega),h' σ' Hi' H' (Same.refl _) R'⟩
theorem kL{tg iter:Expr}{body:List Stmt}{it:Fv}{g:Gv}(hp:PassesOwn (model X.prog X.w) X.A X.env X.xe)(hc:X.calm=true)(hi:PId X G tg iter it)(hg:PGd X G tg g)(hge:∀ d ρ c,g d ρ≠.err c)(hb:fB X G body sa)
  (hs:∀ x,foldedSetIterable iter X.env x=pure x:=by intro _;rfl):PSd X G (.For tg iter body [] pos) (wF it g sa):=PS.wk (zJP hp hc hi hg hb hs) fun E σ H q=>by
 obtain⟨ρ,Hi,R,h⟩:=q;exact⟨ρ,Hi,R,oI R h fun ds Hi1 H1 _ e1 h1 J gv=>zLQ hge (R.grow e1) h1 gv⟩
theorem zAH{c:Expr}{body:List Stmt}(hp:PassesOwn (model X.prog X.w) X.A X.env X.xe)(hc:PTd X G c t)(hb:fB X G body sa):PSd X G (.While c body [] pos) (eU t sa):=PS.wk (zLh hp hc hb) fun E σ H q=>by
 obtain⟨ρ,Hi,R,h⟩:=q;have hn:eU t sa ρ≠.no:=fun z=>by rw[z] at h;exact h
 obtain⟨n,en⟩:=pO hn;rw[en] at h;refine⟨fun m σ' H'=>∃ ρ' Hi',Same Hi Hi'/\lU X G Hi' H' σ' ρ'/\Fin X G Hi' E (wh t sa m ρ'),⟨n,ρ,Hi,Same.refl _,R,h⟩,?_⟩
 rintro m σ' H' ⟨ρ',Hi',s',R',h'⟩
 cases m with
 | zero=>exact h'.elim
 | succ m=>
  rw[wh] at h';refine⟨ρ',Hi',R',oI R' h' fun c Hi1 H1 _ e1 h1=>?_⟩
  have R1:=R'.grow e1
  cases c with
  | false=>exact h1 σ' Hi1 H1 (Same.refl _) R1
  | true=>
   refine⟨fun σ2 H2=>∃ ρ2 Hi2,Same Hi Hi2/\lU X G Hi2 H2 σ2 ρ2/\Fin X G Hi2 E (wh t sa m ρ2),fun σ2 H2 z=>⟨m,by omega,z⟩,ρ',Hi1,R1,?_⟩
   have sm:Same Hi Hi1:=s'.trans e1.i;simp only[if_true] at h1
   cases zb:sa ρ' with
   | no=>rw[zb] at h1;exact h1.elim
   | err c=>rw[zb] at h1;exact h1
   | ok fl=>
    rw[zb] at h1
    cases fl with
    | nx ρ2=>exact fun σ4 Hi4 H4 s4 R4=>⟨ρ2,Hi4,sm.trans s4,R4,Fin.mono (show Fin X G Hi1 E (wh t sa m ρ2) from h1) s4⟩
    | ctn ρ2=>exact fun σ4 Hi4 H4 s4 R4=>⟨ρ2,Hi4,sm.trans s4,R4,Fin.mono (show Fin X G Hi1 E (wh t sa m ρ2) from h1) s4⟩
    | brk ρ2=>exact h1
    | ret r=>cases r<;>exact h1
theorem zJA{K:Fg_}{Hi:Hp}{a:Addr}{xs:List V}{ds:List D}(h:SqT K Hi a xs)(hs:IsDs K Hi xs ds):xQ K Hi (Itt K a) ds:=fun Hi1 H1 s1 s2 i=>by
 have h1:=cG (s1.trans s2) h;refine⟨fun hl=>⟨xs,h1,by rw[hs.length];exact hl⟩,fun d hd=>?_⟩
 obtain⟨v,hv,r⟩:=hs.at hd;refine⟨⟨xs,v,h1,hv⟩,fun x H2 y=>?_⟩
 obtain⟨e,y⟩:=y;subst e;have:=y xs h1
 rw[hv] at this;cases this;exact⟨Hi1,Ext.refl s2,r.mono s1⟩
theorem zNr{lo c:Int}{n i:Nat}{d:D}(h:(rng lo n c)[i]?=some d):i<n/\d=.int (lo+(i:Int)*c):=by
 unfold rng at h;rw[Qr] at h;by_cases hl:i<n
 ·rw[Vd hl] at h;cases h;exact⟨hl,rfl⟩
 ·rw[QA (by rw[Qy];omega)] at h;cases h
theorem zOC(lo c:Int)(n:Nat):(rng lo n c).length=n:=by unfold rng;rw[Qe,Qy]
theorem zCN{K:Fg_}{Hi:Hp}(lo:Int)(n:Nat):xQ K Hi (Itr lo n) (rng lo n 1):=fun Hi1 H1 s1 s2 i=>by
 refine⟨fun hl=>by rw[zOC] at hl;exact hl,fun d hd=>?_⟩
 obtain⟨h1,rfl⟩:=zNr hd;refine⟨h1,fun x H2 y=>?_⟩
 obtain⟨e,y⟩:=y;subst e y;rw[QW];exact⟨Hi1,Ext.refl s2,.int _⟩
theorem zCM{tg:Expr}(hg:Gl X "range")(hm:X.mg "range" = none)(ha:PAd X G [a] fs)(hs:starEach [a] X.env=[(false,eval a X.env)]:=by rfl):PId X G tg (.Call (.Name "range" p) [a] [] pos) (zQ fs):=PI.wk (zHw hg hm ha hs) fun σ H Q q=>by
 obtain⟨ρ,Hi,R,ou⟩:=q;refine zKh R ou fun vs ds Hi1 H1 e1 R1 r1 o1=>?_
 split at o1
 ·rename_i j
  obtain⟨v,rfl,h⟩:=r1.one;by_cases hz:-(2^62)<=j/\j<2^62
  ·rw[if_pos hz] at o1
   exact⟨j,by rw[h.intI],hz.1,hz.2,o1.here R1.s _ (zCN 0 j.toNat)⟩
  ·rw[if_neg hz] at o1;exact o1.elim
 ·exact o1.elim
theorem zIM{tg:Expr}(hg:Gl X "range")(hm:X.mg "range" = none)(ha:PAd X G [a,b] fs)(hs:starEach [a,b] X.env=[(false,eval a X.env),(false,eval b X.env)]:=by rfl)(hs2:starEach [b] X.env=[(false,eval b X.env)]:=by rfl):PId X G tg (.Call (.Name "range" p) [a,b] [] pos) (zEx fs):=PI.wk (zJE hg hm ha hs hs2) fun σ H Q q=>by
 obtain⟨ρ,Hi,R,ou⟩:=q;refine zKh R ou fun vs ds Hi1 H1 e1 R1 r1 o1=>?_
 split at o1
 ·rename_i i j
  obtain⟨v,w,rfl,h,h'⟩:=r1.two;by_cases hz:-(2^62)<=i/\i<2^62/\-(2^62)<=j/\j<2^62
  ·rw[if_pos hz] at o1
   exact⟨i,j,by rw[h.intI,h'.intI],hz,o1.here R1.s _ (zCN i (j-i).toNat)⟩
  ·rw[if_neg hz] at o1;exact o1.elim
 ·exact o1.elim
end
end L3
namespace L3
open PySem PySem.Spec PyProof.Rows L2
unseal PEd PEf PTd PWd PAd PSd fB POd PGd jQ PId
structure Fn (K:PySem.W.Frag) (mg:Str->Option Value) (x:Str) (st:Stmt) (ps:List Str) (f:Addr) (fd:FuncData):Prop where
 fn:Fun K x x st f fd
 bd:zCn K fd ps []
 kp:PySem.W.keepIn K (.ref f)=true
 mg:mg x=some (.ref f)
def XE(X:Cx)(G:Gx):XK:=fun cls _ H=>∃ c,X.mg c=some cls/\G.E c H
def rA(K:PySem.W.Frag)(mg:Str->Option Value)(P:Addr):Prop:=∃ f oc od fd osl c,mg "ranked" = some (.ref f)/\K.lookup f=some ⟨oc,od,.func fd,osl⟩/\fd.code=.ref c/\∀ h,K.In h->PySem.W.CodeHd h c P
def TB(K:PySem.W.Frag)(mg:Str->Option Value)(Hi H:Hp):Prop:=∀ P,rA K mg P->zCy P H/\Hi P=none
theorem TB.ext{K:Fg_}{mg:Str->Option Value}{Hi H Hi' H':Hp}(t:TB K mg Hi H)(e:Ext Hi H Hi' H'):TB K mg Hi' H':=fun P h=>⟨e.h.t P (t P h).1,by
 cases z:Hi' P with
 | none=>rfl
 | some o=>
  obtain⟨⟨ps,q,_⟩,n⟩:=t P h;have:=e.n P n (by rw[z];exact fun w=>by cases w)
  rw[q] at this;cases this⟩
structure Good (X:Cx) (G:Gx) (k:Nat):Prop where
 calm:X.calm=true
 room:Room k X.A
 pass:zFc (CX1 X.prog X.w) X (XE X G)
 own:PassesOwn (model X.prog X.w) X.A X.env X.xe
 tb:TB X.K X.mg G.Bi G.B
def zHu(X:Cx)(G:Gx):Prop:=∀(pins:List (Addr×Obj))(σ:St)(H:Hp)(s s':Shared)(ea:Addr)(cls:Value)(vs:List Value),Inv X pins σ H s->Heap.MadeExcOf s.heap s'.heap ea cls vs->s'.os=s.os->AllBare s'.gens->XE X G cls none H->X.xe (.ref ea) s'
def spM(K:PySem.W.Frag)(mg:Str->Option Value)(p:Nat)(m:Mir):Sp:=fun vs H Q E=>vs.length=p/\∃ Bi ds,TB K mg Bi H/\Same Bi H/\IsDs K Bi vs ds/\match m ds with
 | .ok (.v d)=>∀ v Hi' H',Ext Bi H Hi' H'->IsD K Hi' v d->Q v H'
 | .ok (.f es)=>∀ a Hi' H',Ext Bi H Hi' H'->zLk K H Hi' H' a es->Q (.ref a) H'
 | .err c=>∀ C,mg c=some C->∀ Hi' H',Ext Bi H Hi' H'->E C none H'
 | .no=>False
structure CanM (P:Program) (w:World) (K:PySem.W.Frag) (mg:Str->Option Value) (base:Heap) (k:Nat) (x:Str) (ps:List Str) (m:Mir):Prop where
 ex:∃ f fd,FnOk P w K mg base (CX1 P w) k f fd ps (spM K mg ps.length m)/\zCn K fd ps []/\PySem.W.keepIn K (.ref f)=true/\mg x=some (.ref f)
 ln:∀ ds,m ds≠.no->ds.length=ps.length
theorem Good.u{X:Cx}{G:Gx}{k:Nat}(W:Good X G k):X.A.units+64<cLine:=W.room.units
theorem CanM.mono{P:Program}{w:World}{K:Fg_}{mg:Str->Option Value}{base:Heap}{j k:Nat}{x:Str}{ps:List Str}{m:Mir}(c:CanM P w K mg base j x ps m)(h:j<=k):CanM P w K mg base k x ps m:=by
 obtain⟨⟨f,fd,F,r⟩,l⟩:=c;exact⟨⟨f,fd,F.mono h,r⟩,l⟩
section
variable{X:Cx}{G:Gx}{a b e:Expr}{es:List Expr}{pos p:Pos}{f g:Ev}{fs gs:Fv}{t u:Tv}{x:Str}{st:Stmt}{rest:List Stmt}{sa sb:Sv}{k:Nat}{ps:List Str}{m:Mir}
theorem zPD{ps:List Str}(tb:TB X.K X.mg G.Bi G.B)(ln:∀ ds,m ds≠.no->ds.length=ps.length):∀ σ H Q,tD X G (aP m fs) σ H Q->zNE (spM X.K X.mg ps.length m) [] (XE X G) (tAs X G fs) σ H Q:=fun σ H Q q=>by
 obtain⟨ρ,Hi,R,ou⟩:=q;refine zKh R ou fun vs ds Hi1 H1 e1 R1 r1 o1=>?_
 rw[QK];have hm:m ds≠.no:=fun z=>by rw[z] at o1;exact o1
 refine⟨by rw[r1.length];exact ln ds hm,Hi1,ds,tb.ext R1.ext,R1.s,r1,?_⟩
 cases z:m ds with
 | no=>exact absurd z hm
 | err c=>rw[z] at o1;exact fun C hC Hi2 H2 e2=>⟨c,hC,o1 Hi2 H2 e2⟩
 | ok r=>
  rw[z] at o1
  cases r with
  | v d=>exact fun v Hi2 H2 e2 r2=>o1 Hi2 H2 e2 v r2
  | f ds=>
   intro a Hi2 H2 e2 n;obtain⟨n1,n2,xs,n3,n4⟩:=n;exact o1 _ _ (e2.hold n1 n3 n2) (.ref a) (.lst (SqL.of aY) (n4.mono (dG n2 _)))
theorem aI(W:Good X G k)(c:CanM X.prog X.w X.K X.mg X.base k x ps m)(hg:Gl X x)(ha:PAd X G (e::es) fs)
  (hdb:(x==("__debug__" : Str))=false:=by decide) (he:starEach (e::es) X.env=(false,eval e X.env)::starEach es X.env:=by rfl) (hpl:(backTo pos (starEach es X.env)).any (·.1)=false:=by rfl):
  PEd X G (.Call (.Name x p) (e::es) [] pos) (aP m fs):=by
 obtain⟨⟨f,fd,F,b,kp,hm⟩,ln⟩:=c;exact PE.wk (zDN F W.room hg hm kp b .nil W.pass ha hdb he hpl) (zPD W.tb ln)
theorem zOm{ps:List Str}(tb:TB X.K X.mg G.Bi G.B)(ln:∀ ds,m ds≠.no->ds.length=ps.length):∀ σ H Q,tF X G (dH m fs) σ H Q->zNE (spM X.K X.mg ps.length m) [] (XE X G) (tAs X G fs) σ H Q:=fun σ H Q q=>by
 obtain⟨ρ,Hi,R,ou⟩:=q;refine zKh R ou fun vs ds Hi1 H1 e1 R1 r1 o1=>?_
 rw[QK];have hm:m ds≠.no:=fun z=>by rw[z] at o1;exact o1
 refine⟨by rw[r1.length];exact ln ds hm,Hi1,ds,tb.ext R1.ext,R1.s,r1,?_⟩
 cases z:m ds with
 | no=>exact absurd z hm
 | err c=>rw[z] at o1;exact fun C hC Hi2 H2 e2=>⟨c,hC,o1 Hi2 H2 e2⟩
 | ok r=>
  rw[z] at o1
  cases r with
  | v d=>exact o1.elim
  | f ds=>exact fun a Hi2 H2 e2 n=>o1 Hi2 H2 e2 a ⟨e1.h.none n.1,n.2⟩
theorem bI(W:Good X G k)(c:CanM X.prog X.w X.K X.mg X.base k x ps m)(hg:Gl X x)(ha:PAd X G (e::es) fs)
  (hdb:(x==("__debug__" : Str))=false:=by decide) (he:starEach (e::es) X.env=(false,eval e X.env)::starEach es X.env:=by rfl) (hpl:(backTo pos (starEach es X.env)).any (·.1)=false:=by rfl):
  PEf X G (.Call (.Name x p) (e::es) [] pos) (dH m fs):=by
 obtain⟨⟨f,fd,F,b,kp,hm⟩,ln⟩:=c;exact PE.wk (zDN F W.room hg hm kp b .nil W.pass ha hdb he hpl) (zOm W.tb ln)
theorem bO{d:D}(hg:Gl X x)(h:∃ v u',X.mg x=some u'/\dI v u'/\IsD X.K (fun _=>none) v d)(hdb:(x==("__debug__" : Str))=false:=by decide):PEd X G (.Name x pos) (eC d):=by
 obtain⟨v,u',hm,r,hd⟩:=h;exact kQ (zKb hg hm r hdb) fun H=>hd.mono fun b o z=>by cases z
end
abbrev BX(P:Program)(w:World)(K:PySem.W.Frag)(mg:Str->Option Value)(base:Heap)(N:List Str)(x:Str)(st:Stmt)(f:Addr)(cdv:Value)(A:Around)(outer:List Env)(s:Shared)(H:Hp)(E:XK):Cx:=
 zGV (CX1 P w) P w K mg base N x (aH st) f cdv A outer s H E
theorem zDo{K:Fg_}{mg:Str->Option Value}{Bi H:Hp}{N:List Str}{vs:List V}{ds:List D}(s:Same Bi H)(h:IsDs K Bi vs ds):Rel K mg H Bi Bi H (L2.start N vs) (L3.start N.length ds) where
 len:=by
  unfold L2.start L3.start;rw[Qm,Qm,Qe,Qe,VI,VI,h.length]
 ext:=Ext.refl s
 slot:=fun i sl e=>by
  unfold L3.start at e;by_cases hi:i<ds.length
  ·rw[QR (by rw[Qe];exact hi),Qr] at e
   obtain⟨d,hd⟩:∃ d,ds[i]?=some d:=⟨_,Ql hi⟩;rw[hd] at e;cases e
   obtain⟨v,hv,r⟩:=h.at hd;refine⟨v,?_,r⟩
   unfold L2.start;rw[QR (by rw[Qe,h.length];exact hi),Qr,hv];rfl
  ·rw[QS (by rw[Qe];omega),Xl] at e
   split at e
   ·cases e;trivial
   ·cases e
 dist:=fun i j a es fs e _ _ _=>by
  exfalso
  unfold L3.start at e;by_cases hi:i<ds.length
  ·rw[QR (by rw[Qe];exact hi),Qr] at e
   cases z:ds[i]? with
   | none=>rw[z] at e;cases e
   | some d=>rw[z] at e;cases e
  ·rw[QS (by rw[Qe];omega),Xl] at e
   split at e<;>cases e
section
variable{P:Program}{w:World}{K:Fg_}{mg:Str->Option Value}{base:Heap}{N ps:List Str}{x:Str}{st:Stmt}{f:Addr}{fd:FuncData}{k:Nat}{b:Sv}
theorem zHR{cdv:Value}{A:Around}{outer:List Env}{s:Shared}{H Bi:Hp}{E:XK}(hr:Room k (A.deeper (envOfC x (aH st) s.heap.objs.size f cdv)))(tb:TB K mg Bi H):
  Good (BX P w K mg base N x st f cdv A outer s H E) ⟨H,Bi,fun c H'=>∀ C,mg c=some C->E C none H'⟩ k where
 calm:=rfl
 room:=hr
 pass:=zRO fun c H' q=>by
  obtain⟨c',h1,h2⟩:=q;exact h2 c h1
 own:=PassesOwn.leaving
 tb:=tb
theorem zFE{cdv:Value}{A:Around}{outer:List Env}{s:Shared}{H Bi:Hp}{E:XK}:
  zHu (BX P w K mg base N x st f cdv A outer s H E) ⟨H,Bi,fun c H'=>∀ C,mg c=some C->E C none H'⟩:=fun pins σ H1 s1 s' ea cls vs I hx hos hg q=>by
 obtain⟨c',h1,h2⟩:=q;exact zDG I hx hos hg (h2 cls h1)
theorem zOS(F:Fn K mg x st ps f fd)(S:FnScope N ps (aH st))
  (h:∀(cdv:Value)(A:Around)(outer:List Env)(s:Shared)(H:Hp)(E:XK)(G:Gx),Good (BX P w K mg base N x st f cdv A outer s H E) G k->zHu (BX P w K mg base N x st f cdv A outer s H E) G->fB (BX P w K mg base N x st f cdv A outer s H E) G (fW st) b):
  FnOk P w K mg base (CX1 P w) (k+1) f fd ps (spM K mg ps.length (fn ps.length N.length b)):=by
 obtain⟨oc,od,kV,doc,pm,an,cdv,ct,osl,rfl,lk,hcd⟩:=F.fn.ex;refine zQt lk hcd S (fun vs H Q E h=>h.1) fun A outer s H vs Q E hr hsp=>?_
 obtain⟨hl,Bi,ds,tb,sm,hd,hq⟩:=hsp;have hg:=zHR (P:=P) (w:=w) (K:=K) (mg:=mg) (base:=base) (N:=N) (outer:=outer) (H:=H) (Bi:=Bi) (E:=E) hr tb;refine⟨_,h cdv A outer s H E _ hg zFE,L3.start N.length ds,Bi,zDo sm hd,?_⟩
 have hlen:ds.length=ps.length:=by rw[<-hd.length];exact hl
 unfold fn at hq;rw[if_pos hlen] at hq
 cases z:b (L3.start N.length ds) with
 | no=>rw[z] at hq;exact hq
 | err c=>rw[z] at hq;exact fun Hi' H' e C hC=>hq C hC Hi' H' e
 | ok fl=>
  rw[z] at hq
  cases fl with
  | nx ρ'=>exact fun σ' Hi' H' s R=>hq .non Hi' H' R.ext .non
  | brk ρ'=>exact hq.elim
  | ctn ρ'=>exact hq.elim
  | ret r=>
   cases r with
   | v d=>exact hq
   | f es=>exact hq
theorem aO(F:Fn K mg x st ps f fd)(S:FnScope N ps (aH st))
  (h:∀(cdv:Value)(A:Around)(outer:List Env)(s:Shared)(H:Hp)(E:XK)(G:Gx),Good (BX P w K mg base N x st f cdv A outer s H E) G k->zHu (BX P w K mg base N x st f cdv A outer s H E) G->fB (BX P w K mg base N x st f cdv A outer s H E) G (fW st) b):
  CanM P w K mg base (k+1) x ps (fn ps.length N.length b):=by
 refine⟨⟨f,fd,zOS F S h,F.bd,F.kp,F.mg⟩,fun ds hm=>?_⟩
 unfold fn at hm;split at hm
 ·assumption
 ·exact absurd rfl hm
end
section
variable{X:Cx}{G:Gx}{a b e:Expr}{es:List Expr}{pos p:Pos}{f g:Ev}{fs gs:Fv}{t u:Tv}{x:Str}{st:Stmt}{rest:List Stmt}{sa sb:Sv}{k:Nat}
theorem PTd.frz(h:PTd X G e t):PTd X G e (tFrzB t):=PT.wk h fun σ H Q q=>by
 obtain⟨ρ,Hi,R,ou⟩:=q;obtain⟨Hf,s1,R1,fl⟩:=R.frz;refine⟨ρ.map Sl.frz,Hf,R1,?_⟩
 unfold tFrzB at ou
 cases z:t (ρ.map Sl.frz) with
 | no=>rw[z] at ou;exact ou
 | err c=>
  rw[z] at ou;intro Hi1 H1 e1;obtain⟨Ht,e2,k,s2,n⟩:=Ext.thaw s1 fl R1.s e1;exact ou Ht H1 e2
 | ok c=>
  rw[z] at ou;intro Hi1 H1 e1;obtain⟨Ht,e2,k,s2,n⟩:=Ext.thaw s1 fl R1.s e1;exact ou Ht H1 e2
def iSq(K:PySem.W.Frag)(tl:TE):TI:=fun σ H R=>tl σ H fun x H1=>∃ a,x=.ref a/\(((∃ xs,SqL K H1 a xs)/\R (Itl K a) H1)∨((∃ xs,SqT K H1 a xs)/\R (Itt K a) H1))
theorem zQO{tg l:Expr}{tl:TE}(hl:PE X l tl):PI X tg l (iSq X.K tl):=by
 intro pins s σ H R I h;refine thn (hl pins s σ H _ I h) fun v s1 ⟨x,H1,I1,r1,q1⟩=>?_
 obtain⟨a,e,q1⟩:=q1;subst e;cases r1;rcases q1 with⟨⟨xs,hq⟩,q⟩ | ⟨⟨xs,hq⟩,q⟩
 ·obtain⟨its,rv,p,hz⟩:=I1.list hq
  refine wpAny_pyIter_list p.isList ?_
  refine⟨s1.heap.objs.size,[s1.heap.objs.size],_,_,H1,rfl,I1.kept (t':=s1.toks) fun b o e=>Heap.get?_push_of_some _ e,zCg a _,⟨_,Heap.get?_push_size _ rfl,rfl,rfl⟩,fun b hb=>?_,q⟩
  have e:b=s1.heap.objs.size:=by simpa using hb
  subst e;exact I1.fpOk (Qg _) (I1.hok.fresh (Qg _))
 ·obtain⟨its,rv,p,hz⟩:=I1.tuple hq
  refine wpAny_pyIter_tuple (show s1.heap.IsTuple a its.toArray from p) ?_
  refine⟨s1.heap.objs.size,[s1.heap.objs.size],_,_,H1,rfl,I1.kept (t':=s1.toks) fun b o e=>Heap.get?_push_of_some _ e,zGK a _,⟨_,Heap.get?_push_size _ rfl,rfl,rfl⟩,fun b hb=>?_,q⟩
  have e:b=s1.heap.objs.size:=by simpa using hb
  subst e;exact I1.fpOk (Qg _) (I1.hok.fresh (Qg _))
theorem zCV{K:Fg_}{Hi:Hp}{a:Addr}{xs:List V}{ds:List D}(h1:SqL K Hi a xs)(h2:IsDs K Hi xs ds):xQ K Hi (Itl K a) ds:=fun Hi1 H1 s1 s2 i=>by
 have h3:=dB (s1.trans s2) h1;refine⟨fun hl=>⟨xs,h3,by rw[h2.length];exact hl⟩,fun d hd=>?_⟩
 obtain⟨v,hv,r⟩:=h2.at hd;refine⟨⟨xs,v,h3,hv⟩,fun x H2 y=>?_⟩
 obtain⟨e,y⟩:=y;subst e;have:=y xs h3
 rw[hv] at this;cases this;exact⟨Hi1,Ext.refl s2,r.mono s1⟩
theorem iU{tg:Expr}(h:PEd X G e f):PId X G tg e (qK f):=PI.wk (zQO h) fun σ H Q q=>by
 obtain⟨ρ,Hi,R,ou⟩:=q;refine zDT R ou fun v d Hi1 H1 e1 R1 r1 o1=>?_
 cases d with
 | lst ds=>
  obtain⟨a,xs,rfl,h1,h2⟩:=r1.lstI;exact⟨a,rfl,.inl ⟨⟨xs,dB R1.s h1⟩,o1.here R1.s _ (zCV h1 h2)⟩⟩
 | tup ds=>
  obtain⟨a,xs,rfl,h1,h2⟩:=r1.tupI;exact⟨a,rfl,.inr ⟨⟨xs,cG R1.s h1⟩,o1.here R1.s _ (zJA h1 h2)⟩⟩
 | _=>exact o1.elim
theorem bN{i:Nat}:∀ d ρ c,gName i d ρ≠.err c:=fun d ρ c z=>by cases z
theorem zJs:∀ d ρ c,zHv d ρ≠.err c:=fun d ρ c z=>by cases d<;>cases z
theorem uA{g:Gv}{r:List D->Rho->Res Rho}(h1:∀ d ρ c,g d ρ≠.err c)(h2:∀ d ρ c,r d ρ≠.err c):∀ d ρ c,oH g r d ρ≠.err c:=fun d ρ c z=>by
 cases d with
 | nil=>cases z
 | cons d ds=>
  have z':(g d ρ).bind (fun ρ'=>r ds ρ')=.err c:=z
  cases q:g d ρ with
  | no=>rw[q] at z';cases z'
  | err c'=>exact h1 _ _ _ q
  | ok ρ'=>rw[q] at z';exact h2 _ _ _ z'
theorem zHS{r:List D->Rho->Res Rho}(h:∀ d ρ c,r d ρ≠.err c):∀ d ρ c,zIY r d ρ≠.err c:=fun d ρ c z=>by
 cases d<;>first | cases z | exact h _ _ _ z
theorem zLV:∀(ds:List D)(ρ ρ':Rho),zHv ds ρ=.ok ρ'->ds.length=0:=fun ds ρ ρ' z=>by
 cases ds with
 | nil=>rfl
 | cons d ds=>cases z
theorem zAu{g:Gv}{r:List D->Rho->Res Rho}{n:Nat}(h:∀ (ds:List D) (ρ ρ':Rho),r ds ρ=.ok ρ'->ds.length=n):∀(ds:List D)(ρ ρ':Rho),oH g r ds ρ=.ok ρ'->ds.length=n+1:=fun ds ρ ρ' z=>by
 cases ds with
 | nil=>cases z
 | cons d ds=>
  have z':(g d ρ).bind (fun ρ'=>r ds ρ')=.ok ρ':=z
  cases q:g d ρ with
  | no=>rw[q] at z';cases z'
  | err c'=>rw[q] at z';cases z'
  | ok ρ1=>rw[q] at z';rw[Qn,h ds ρ1 ρ' z']
theorem zAK:∀ a b d,zAx a b=.ok d->∃ i j,a=.int i/\b=.int j/\d=.int (i+j):=fun a b d z=>by
 unfold zAx at z;split at z
 ·cases z;exact⟨_,_,rfl,rfl,rfl⟩
 ·cases z
theorem uD:∀ a b c,zAx a b≠.err c:=fun a b c z=>by unfold zAx at z;split at z<;>cases z
theorem zJW:∀ a b d,tM a b=.ok d->∃ i j,a=.int i/\b=.int j/\d=.int (i-j):=fun a b d z=>by
 unfold tM at z;split at z
 ·cases z;exact⟨_,_,rfl,rfl,rfl⟩
 ·cases z
theorem zFb:∀ a b c,tM a b≠.err c:=fun a b c z=>by unfold tM at z;split at z<;>cases z
end
theorem zDs{K:Fg_}{H:Hp}:∀ ns:List Int,IsDs K H (ns.map V.int) (ns.map D.int)
 | []=>.nil
 | n::ns=>.cons (.int n) (zDs ns)
section
variable{X:Cx}{G:Gx}{e:Expr}{es:List Expr}{pos np cpos:Pos}{fs:Fv}{k:Nat}{c:Str}
theorem iM(W:Good X G k)(WR:zHu X G)(hR:∃ C,Err X.K X.mg c C)(hg:Gl X c)(ha:PAd X G (e::es) fs)
  (he:starEach (e::es) X.env=(false,eval e X.env)::starEach es X.env:=by rfl) (hplain:(backTo cpos (starEach es X.env)).any (·.1)=false:=by rfl) (hd:(c==("__debug__" : Str))=false:=by decide):
  PSd X G (.Raise (some (.Call (.Name c np) (e::es) [] cpos)) none pos) (jV c fs):=by
 intro pins s σ H E I q;obtain⟨ρ,Hi,R,h⟩:=q;obtain⟨C,Er⟩:=hR;obtain⟨bmB,newId,B,initId,O,FB⟩:=Er.own X.base I.mod.kin;obtain⟨tl,N,nm,q,bs,hdct,sn,sub,ab,col,dd,k0,k1,k2,k3,k5,mN,hC,hN,hni,T⟩:=O.obj
 have hA:=ha cpos pins s σ H (fun vs H1=>vs.length<=sizeLine/\XE X G (.ref C) none H1) I ⟨ρ,Hi,R,oI R h fun ds Hi' H' _ e1 h' vs r=>by
  have h':Fin X G Hi' E (if ds.length<=16777216 then (.err c:Res Fl) else .no):=h';by_cases hz:ds.length<=16777216
  ·rw[if_pos hz] at h'
   exact⟨by rw[r.length];exact hz,c,O.bound,h' Hi' H' (R.ext.trans e1)⟩
  ·rw[if_neg hz] at h';exact h'.elim⟩
 refine wpAny_Raise_call_subT (C:=C) (nm:=nm) (q:=q) (N:=N) (bs:=bs) (bm:=tl) (hdct:=hdct) (sn:=sn) (sub:=sub) (ab:=ab) (col:=col) (dd:=dd) (k0:=k0) (k1:=k1) (k2:=k2) (k3:=k3) (k5:=k5)
  FB (mN:=mN) (T.hasType FB.hasBase) (I.ok.hd W.calm) (by rw[he];show(false || (backTo cpos (starEach es X.env)).any (·.1))=false;rw[hplain];rfl) hni (zEG I hg O.bound ⟨rfl,?_⟩ hd)
 rw[he] at hA ⊢
 refine Calls.evalArgs_plain (wpAny_mono hA (fun us s₂ h₂=>?_) fun _ _ y=>y)
 obtain⟨vs,H2,I2,rv,hz,hx⟩:=h₂;exact⟨rfl,by show us.length<=sizeLine;rw[<-rv.length];exact hz,I2.bk _ _ hC,hN.keeps I2.bk,T.keeps I2.bk,fun h' ea hm=>WR pins σ H2 s₂ { s₂ with heap:=h' } ea (.ref C) us I2 hm rfl I2.bare hx⟩
end
end L3
namespace L3
open PySem PySem.Spec PyProof.Rows L2 PySem.W Builtin Builtin.ObjectAttr Builtin.Getset_descriptor
unseal PEd PEf PTd PWd PAd PSd fB POd PGd jQ PId
section
variable{prog:Program}{w:World}{A:Around}{E:Value->Shared->Prop}{s:Shared}{K:Frag}{x D:Addr}{ox:Obj}
end
section
variable{prog:Program}{w:World}{A:Around}{E:Value->Shared->Prop}{s:Shared}{K:Frag}{x C CE:Addr}{ox:Obj}
end
section
variable{X:Cx}{pins:List (Addr×Obj)}{σ:St}{H H':Hp}{s s':Shared}{ea:Addr}{cls:Value}
theorem _root_.L2.Inv.track(I:Inv X pins σ H s){a:Addr}{o:HO}(hn:H a=none)(h0:X.s₀.heap.get? a=none)(hl:a≠X.env.locals)(hc:∀ x c,X.env.cells.lookup x=some c->c≠a)(hp:∀ p∈X.pn++pins,p.1≠a)
  (ho:mJ X.prog X.w (upd H a o) s.heap a o):Inv X pins σ (upd H a o) s where
 ok:=I.ok
 os:=I.os
 bare:=I.bare
 base:=⟨I.base.keep,I.base.slot,fun b ob e n hx=>by
   have:b≠a:=fun z=>by rw[z,h0] at e;cases e
   rw[bA this];exact I.base.free b ob e n hx,I.base.there,fun b xs e=>by
   have z:=I.base.tups b xs e
   rw[bA (bD z hn)];exact z,fun b ob u e=>by
   have z:=I.base.frzs b ob u e
   rw[bA (bD z hn)];exact z,fun b ps e=>by
   obtain⟨m,z⟩:=I.base.tbls b ps e
   exact⟨m,by rw[bA (bD z hn)];exact z⟩⟩
 loc:=I.loc
 cell:=I.cell
 free:=by rw[bA (Ne.symm hl)];exact I.free
 freeC:=fun x c e=>by rw[bA (hc x c e)];exact I.freeC x c e
 pin:=fun p hp'=>by
  obtain⟨e1,e2,e3,e4,e5⟩:=I.pin p hp';exact⟨e1,by rw[bA (hp p hp')];exact e2,e3,e4,e5⟩
 hok:=fun b u e=>by
  by_cases hb:b=a
  ·subst hb;rw[aY] at e;cases e;exact ho
  ·rw[bA hb] at e
   exact(I.hok b u e).stay (fun c v _ q=>q) (fun c q=>by rw[bA (bD q hn)];exact q) fun c xs q=>by rw[bA (bD q hn)];exact q
 len:=I.len
end
section
variable{X:Cx}{G:Gx}{a e:Expr}{es:List Expr}{pos p:Pos}{fs:Fv}{t:Tv}{x:Str}{k:Nat}{ps:List Str}{m:Mir}{st:Stmt}{sts:List Stmt}{sa sb:Sv}
def zSn(X:Cx)(pins:List (Addr×Obj))(σ:St)(Hi H:Hp)(c:Str)(ev:Value)(s':Shared):Prop:=
 ∃(s1:Shared)(H1:Hp)(ea:Addr)(cls:Value)(Hi' H':Hp),ev=.ref ea/\Inv X pins σ H1 s1/\X.mg c=some cls/\Fly X.prog X.w X.stack H1 H' s1 ea cls s'/\Ext Hi H Hi' H'/\Keep H H1
def zSu(X:Cx)(G:Gx)(Hi:Hp)(E:Ends)(r:Res Fl):Prop:=match r with
 | .err _=>True
 | r=>Fin X G Hi E r
@[irreducible] def PSx (X:Cx) (G:Gx) (st:Stmt) (f:Sv):Prop:=∀(pins:List (Addr×Obj))(s:Shared)(σ:St)(H:Hp)(E:Ends)(ρ:Rho)(Hi:Hp)(Et:Value->Shared->Prop),
 Inv X pins σ H s->lU X G Hi H σ ρ->f ρ≠.no->zSu X G Hi E (f ρ)->(∀ c ev s',f ρ=.err c->zSn X pins σ Hi H c ev s'->Et ev s')->wpAny (model X.prog X.w) X.A (exec st X.env) (SP X pins E) Et s
unseal PSx
@[irreducible] def nZ (X:Cx) (G:Gx) (sts:List Stmt) (f:Sv):Prop:=∀(pins:List (Addr×Obj))(s:Shared)(σ:St)(H:Hp)(E:Ends)(ρ:Rho)(Hi:Hp)(Et:Value->Shared->Prop),
 Inv X pins σ H s->lU X G Hi H σ ρ->f ρ≠.no->zSu X G Hi E (f ρ)->(∀ c ev s',f ρ=.err c->zSn X pins σ Hi H c ev s'->Et ev s')->wpAny (model X.prog X.w) X.A (execs sts X.env) (SP X pins E) Et s
unseal nZ
end
end L3
namespace L3
open PySem PySem.Spec PyProof.Rows L2 PySem.W
unseal PEd PEf PTd PWd PAd PSd fB POd PGd jQ PId PSx nZ
section
variable{X:Cx}{G:Gx}{k:Nat}{fb fh:Sv}{body suite:List Stmt}{b₀:Stmt}{ce n:Str}{np hpos pos:Pos}{i:Nat}{tb:List Str}
end
section
variable{X:Cx}{G:Gx}{a:Expr}{p q pos:Pos}{i:Nat}{anc:List (Str×List Str)}{xs:List Str}{x:Str}
end
section
variable{K:Frag}{h:Heap}{mg:Str->Option Value}{x c ce:Str}{C CE:Addr}
theorem vX{newId:String}{bmB:List Value}{B initId:String}(X:K.In h)(G:h.Ns mainGlobals mg)(e:nsIn K mainGlobals x=some (some (.ref C)))(q:excIn K C bmB newId=true)(F:ExcBaseFacts B newId initId bmB):∃ C,Err K mg x C:=by
 refine⟨C,⟨fun h' X'=>⟨bmB,newId,B,initId,⟨mg_of X G e,?_⟩,F⟩⟩⟩
 unfold excIn at q;split at q
 ·rename_i dd cd sl ho
  split at q
  ·rename_i C' bm k0 k1 k2 k3 n k5 hm hs
   simp only[Va,beq_iff_eq,Bool.not_eq_true'] at q;obtain⟨⟨⟨⟨⟨rfl,rfl⟩,hdel⟩,ht⟩,hok⟩,hni⟩:=q;obtain⟨nm,bs,mro,ns,qn,hd,sn,sub,ab,col,del⟩:=cd;dsimp only at hm hdel hok hni
   subst hm hdel
   have hsl:sl=#[k0,k1,k2,k3,some (.builtin n),k5]:=by
    obtain⟨l⟩:=sl;simp only at hs
    rw[hs]
   subst hsl;exact⟨bm,ns,nm,qn,bs,hd,sn,sub,ab,col,dd,k0,k1,k2,k3,k5,_,X' _ _ ho,.of_isNs (isNs_of_in X' hok),nsMap_none_of_in X' hok hni,tail_of_in X' ht⟩
  ·cases q
 ·cases q
end
def zDI(env:Env):List (Str×NameKind)->List (Str×Addr)->List (Str×Addr)
 | [],cs=>cs
 | (n,k)::r,cs=>zDI env r (if k==.free then (n,(env.cells.lookup n).getD 0)::cs else cs)
theorem zMu{env:Env}:∀(l:List (Str×NameKind))(cs:List (Str×Addr)),(∀ p∈l,p.2=.free->∃ c,env.cells.lookup p.1=some c)->
  (forIn l cs (fun p (r:List (Str×Addr))=>if (p.2==NameKind.free)=true then (do let a <-cellOf env p.1;pure (ForInStep.yield ((p.1,a)::r))) else pure (ForInStep.yield r)):Sem (List (Str×Addr)))=pure (zDI env l cs)
 | [],cs,_=>by simp[zDI]
 | (n,k)::r,cs,h=>by
  rw[List.forIn_cons,zDI];have ih:=fun cs=>zMu r cs fun p hp=>h p (Qc _ hp)
  by_cases e:(k==NameKind.free)=true
  ·obtain⟨c,hc⟩:=h (n,k) Qb (beq_iff_eq.mp e)
   simp only[e,if_true,cellOf,hc,pure_bind,Option.getD_some];exact ih _
  ·simp only[e,VQ,if_false,pure_bind]
   exact ih _
theorem zLD{env:Env}{scope:Scope}(h:∀ p∈scope.names,p.2=.free->∃ c,env.cells.lookup p.1=some c):closureFor scope env=pure (zDI env scope.names []):=by
 have:=zMu scope.names [] h
 unfold closureFor;rw[<-this];simp
theorem wI{env:Env}:∀(l:List (Str×NameKind))(cs:List (Str×Addr)),(∀ p∈l,p.2=.free->∃ c,env.cells.lookup p.1=some c)->(∀ y c,cs.lookup y=some c->env.cells.lookup y=some c)->
  ∀ y c,(zDI env l cs).lookup y=some c->env.cells.lookup y=some c
 | [],cs,_,h,y,c,e=>h y c e
 | (n,k)::r,cs,hl,h,y,c,e=>by
  rw[zDI] at e;refine wI r _ (fun p hp=>hl p (Qc _ hp)) (fun y c e=>?_) y c e
  by_cases z:(k==NameKind.free)=true
  ·obtain⟨c',hc⟩:=hl (n,k) Qb (beq_iff_eq.mp z)
   simp only[z,if_true,Vf,hc,Option.getD_some] at e
   cases w:y==n with
   | true=>rw[w] at e;cases e;rw[beq_iff_eq.mp w];exact hc
   | false=>rw[w] at e;exact h y c e
  ·simp only[z,VQ,if_false] at e
   exact h y c e
theorem zFJ{env:Env}:∀(l:List (Str×NameKind))(cs:List (Str×Addr))(y:Str),(∃ c,cs.lookup y=some c)->∃ c,(zDI env l cs).lookup y=some c
 | [],cs,y,h=>h
 | (n,k)::r,cs,y,⟨c,h⟩=>by
  rw[zDI];refine zFJ r _ y ?_
  split
  ·rw[Vf]
   cases y==n with
   | true=>exact⟨_,rfl⟩
   | false=>exact⟨c,h⟩
  ·exact⟨c,h⟩
theorem vW{env:Env}:∀(l:List (Str×NameKind))(cs:List (Str×Addr))(y:Str),(y,NameKind.free)∈l->∃ c,(zDI env l cs).lookup y=some c
 | (n,k)::r,cs,y,h=>by
  rw[zDI];rcases Qd.mp h with e | h
  ·cases e
   refine zFJ r _ _ ⟨(env.cells.lookup n).getD 0,?_⟩
   simp only[beq_self_eq_true,if_true,Vf]
  ·exact vW r _ y h
theorem bW{α:Type}:∀ {l:List (Str×α)} {y:Str} {k:α},l.lookup y=some k->(y,k)∈l
 | (n,k')::r,y,k,h=>by
  rw[Vf] at h
  cases z:y==n with
  | true=>rw[z] at h;cases h;rw[beq_iff_eq.mp z];exact Qb
  | false=>rw[z] at h;exact Qc _ (bW h)
theorem cN{env:Env}:∀ {l:List (Str×NameKind)} {y:Str} {k:NameKind},
  (l.map fun(n,k)=>if (k==NameKind.free && env.scope.kind==.function && env.kindOf n==some .cell) then (n,NameKind.cell) else (n,k)).lookup y=some k->
  l.lookup y=some k∨(k=.cell/\l.lookup y=some .free)
 | (n,k')::r,y,k,h=>by
  rw[Qs] at h;rw[Vf];by_cases c:(k'==NameKind.free && env.scope.kind==.function && env.kindOf n==some .cell)=true
  ·simp only[c,if_true,Vf] at h
   cases z:y==n with
   | true=>
    rw[z] at h;cases h;refine .inr ⟨rfl,?_⟩
    simp only[Va] at c;rw[beq_iff_eq.mp c.1.1]
   | false=>rw[z] at h;exact cN h
  ·simp only[c,VQ,if_false,Vf] at h
   cases z:y==n with
   | true=>rw[z] at h;exact .inl h
   | false=>rw[z] at h;exact cN h
def msk(x y:Str):Str:=if y=x then ("" : Str) else y
structure BlkOk (X:Cx) (x:Str) (scope:Scope):Prop where
 kind:scope.kind=.function
 cell:∀ y∈scope.names,y.2≠.cell
 loc:scope.names.lookup x=some .local
 names:∀ y∈scope.names,y.2=.local->scope.names.lookup y.1=some .local
 fre:∀ p∈scope.names,p.2=.free->X.env.kindOf p.1=some .cell∨X.env.kindOf p.1=some .free
 oth:∀ y∈X.N,y≠x->scope.names.lookup y≠some .local
 emp:scope.names.lookup ("" : Str)=none
def cxC(X:Cx)(x:Str)(scope:Scope)(C:Addr)(s₂:Shared)(H₂:Hp)(fp:List Addr):Cx:=
  { prog:=X.prog,w:=X.w,K:=X.K,mg:=X.mg,base:=X.base,A:=X.A,N:=X.N.map (msk x)++[x],s₀:=s₂,H₀:=H₂,env:=compEnvC scope (zDI X.env scope.names []) C X.env,outer:=X.stack,stack:=X.stack,
    ex:=fp,fn:=fun _=>false,calm:=X.calm,pn:=X.pn,xe:=fun _ _=>False }
section
variable{X:Cx}{pins:List (Addr×Obj)}{σ:St}{H:Hp}{s₂:Shared}{x:Str}{scope:Scope}{fp:List Addr}{D C:Addr}{h₁:Heap}
theorem BlkOk.cl(B:BlkOk X x scope)(I:Inv X pins σ H s₂):∀ p∈scope.names,p.2=.free->∃ c,X.env.cells.lookup p.1=some c:=fun p hp e=>I.ok.has p.1 (B.fre p hp e)
theorem zRM(I:Inv X pins σ H s₂)(B:BlkOk X x scope)(hfp:∀ b∈fp,tW X pins H b)(hfl:∀ b∈fp,b<s₂.heap.objs.size)(hD:s₂.heap.objs.size<=D)(hC:s₂.heap.objs.size<=C)(hDC:D≠C)
  (old:∀ b o,s₂.heap.get? b=some o->h₁.get? b=some o) {n:Nat} (hacc:h₁.get? D=some { cls:=.type "list", data:=.seq ([]:List Value).toArray n }) {m:Str->Option Value} (hns:h₁.Ns C m) (t:Nat):
  Inv (cxC X x scope C s₂ H fp) pins (σ++[none]) (upd H D (.lst [])) { s₂ with heap:=h₁,toks:=t }:=by
 have sub:=wI scope.names [] (B.cl I) (fun y c e=>nomatch e)
 have old_lt:∀ {b:Addr} {o:Obj},s₂.heap.get? b=some o->b≠D/\b≠C:=fun e=>⟨Qt (Qp (Heap.lt_size e) hD),Qt (Qp (Heap.lt_size e) hC)⟩
 have free:∀ {b:Addr},b≠D->H b=none->upd H D (.lst []) b=none:=fun n e=>by rw[bA n];exact e
 refine⟨⟨I.ok.mod,B.kind,I.ok.glob,I.ok.blt,hC,fun y z c e1 e2=>I.ok.inj y z c (sub y c e1) (sub z c e2),fun y hy=>?_,fun y c e=>(nomatch e),I.ok.hd,I.ok.frames,.inl rfl,fun b hb=>⟨Qt (Qp (hfl b hb) hC),fun y c e=>(hfp b hb).2.2.2.2.1 y c (sub y c e)⟩,
  I.bs,QD I.ok.bsz I.sz,fun b o e hb=>?_,fun b hb z=>?_,I.stack,I.stkFree⟩,rfl,I.bare,Un.laid old hD (I.hok.fresh hD),⟨m,hns,fun i y v e1 e2 e3=>?_⟩,fun y c e=>?_,free (Ne.symm hDC) (I.hok.fresh hC),fun y c e=>?_,fun p hp=>?_,I.hok.laid old hD ⟨QZ _,[],n,.nil,hacc⟩,?_⟩
 ·have:∃ k,(k=NameKind.cell∨k=NameKind.free)/\((relabel scope X.env).names).lookup y=some k:=hy.elim (fun h=>⟨_,.inl rfl,h⟩) fun h=>⟨_,.inr rfl,h⟩
  obtain⟨k,hk,e⟩:=this
  have e':(y,NameKind.free)∈scope.names:=by
   rcases cN e with z | ⟨_,z⟩
   ·rcases hk with rfl | rfl
    ·exact absurd rfl (B.cell _ (bW z))
    ·exact bW z
   ·exact bW z
  exact vW scope.names [] y e'
 ·rcases (hfp b hb).2.2.2.1 with z | z
  ·exact I.ok.noex b o e z
  ·exact absurd (Qp (Heap.lt_size e) (QD I.ok.bsz z)) (Vh _)
 ·rcases Qd.mp (I.stkSub b z) with w | w
  ·exact(hfp b hb).2.1 w
  ·exact(hfp b hb).2.2.1 w
 ·
  have hi:i<σ.length:=by
   by_cases hi:i<σ.length
   ·exact hi
   ·exfalso
    rw[QS (by omega)] at e2
    cases q:i-σ.length with
    | zero=>rw[q] at e2;cases e2
    | succ j=>rw[q] at e2;cases e2
  rw[QR hi] at e2;have e1':(X.N.map (msk x)++[x])[i]?=some y:=e1;rw[QR (by rw[Qe,<-I.len];exact hi),Qr] at e1'
  cases q:X.N[i]? with
  | none=>rw[q] at e1';cases e1'
  | some z=>
   rw[q] at e1';have e1'':msk x z=y:=QP e1';have hz:z∈X.N:=Qi q;have vis:∃ k,((relabel scope X.env).names).lookup y=some k:=e3.elim (fun h=>⟨_,h⟩) fun h=>h.elim (fun h=>⟨_,h⟩) fun h=>⟨_,h⟩
   have hzx:z≠x:=fun w=>by
    obtain⟨k,hk⟩:=vis;have:y=("" : Str):=by rw[<-e1'',w];exact if_pos rfl
    rw[this] at hk;rcases cN hk with h | ⟨_,h⟩<;>(rw[B.emp] at h;cases h)
   have hy:z=y:=by rw[<-e1''];exact(if_neg hzx).symm
   subst hy
   have fr:(z,NameKind.free)∈scope.names:=by
    rcases e3 with h | h | h
    ·rcases cN h with h | ⟨h,_⟩
     ·exact absurd h (B.oth z hz hzx)
     ·cases h
    ·rcases cN h with h | ⟨_,h⟩
     ·exact absurd rfl (B.cell _ (bW h))
     ·exact bW h
    ·rcases cN h with h | ⟨h,_⟩
     ·exact bW h
     ·cases h
   have kd:=B.fre _ fr rfl;obtain⟨m0,hn0,hl⟩:=I.loc;obtain⟨u,ru,lk⟩:=hl i z v q e2 (kd.elim (fun h=>.inr (.inl h)) fun h=>.inr (.inr h))
   refine⟨u,ru,.inr ⟨?_,?_⟩⟩
   ·rcases e3 with h | h | h
    ·rcases cN h with h | ⟨h,_⟩
     ·exact absurd h (B.oth z hz hzx)
     ·cases h
    ·exact .inl h
    ·exact .inr h
   ·rcases lk with⟨k1,_⟩ | ⟨_,c,hc,hcell⟩
    ·rcases kd with kd | kd<;>(rw[kd] at k1;cases k1)
    ·obtain⟨c',hc'⟩:=vW (env:=X.env) scope.names [] z fr
     have:=sub z c' hc'
     rw[hc] at this;cases this;obtain⟨o,ho,hd⟩:=hcell;exact⟨c,hc',o,old _ _ ho,hd⟩
 ·obtain⟨v,o,ho,hd⟩:=I.cell y c (sub y c e)
  exact⟨v,o,old _ _ ho,hd⟩
 ·obtain⟨v,o,ho,hd⟩:=I.cell y c (sub y c e)
  exact free (old_lt ho).1 (I.freeC y c (sub y c e))
 ·obtain⟨e,n,ne,nf,d⟩:=I.pin p hp
  refine⟨old _ _ e,free (old_lt e).1 n,(old_lt e).2,fun z=>?_,d⟩
  rcases Qd.mp (I.stkSub _ z) with w | w
  ·exact ne w
  ·exact nf w
 ·show(σ++[none]).length=(X.N.map (msk x)++[x]).length
  rw[Qm,Qm,Qe,I.len];rfl
end
section
variable{K:Fg_}{mg:Str->Option Value}{B Bi Hi H Hi' H':Hp}{σ:St}{ρ:Rho}
theorem Rel.snoc{v:V}{d:D}(R:Rel K mg B Bi Hi H σ ρ)(h:IsD K Hi v d):Rel K mg B Bi Hi H (σ++[some v]) (ρ++[.val d]) where
 len:=by rw[Qm,Qm,R.len];rfl
 ext:=R.ext
 slot:=fun j s q=>by
  by_cases hl:j<ρ.length
  ·rw[QR hl] at q
   rw[QR (by rw[R.len];exact hl)];exact R.slot j s q
  ·rw[QS (by omega)] at q
   rw[QS (by rw[R.len];omega),R.len]
   cases z:j-ρ.length with
   | zero=>rw[z] at q;cases q;exact⟨v,rfl,h⟩
   | succ n=>rw[z] at q;cases q
 dist:=fun j k a ds es q1 q2 q3 q4=>by
  have own:∀ {j:Nat} {ds:List D},(ρ++[Sl.val d])[j]?=some (.own ds)->j<ρ.length:=fun {j ds} q=>by
   by_cases hl:j<ρ.length
   ·exact hl
   ·rw[QS (by omega)] at q
    cases z:j-ρ.length with
    | zero=>rw[z] at q;cases q
    | succ n=>rw[z] at q;cases q
  have h1:=own q1;have h2:=own q2;rw[QR h1] at q1;rw[QR h2] at q2;rw[QR (by rw[R.len];exact h1)] at q3;rw[QR (by rw[R.len];exact h2)] at q4;exact R.dist j k a ds es q1 q2 q3 q4
theorem Ext.rewrite{a:Addr}{o:HO}(e:Ext Hi H Hi' H')(hn:H a=none)(hi:Hi' a=none)(hl:∃ xs,H' a=some (.lst xs)):Ext Hi H Hi' (upd H' a o) where
 i:=e.i
 h:=⟨fun b u z=>by rw[bA (bD z hn)];exact e.h.k _ _ z,fun P z=>by
  obtain⟨xs,hl⟩:=hl
  exact(e.h.t P z).put (fun ps y=>by rw[hl] at y;cases y) (fun ob u y=>by rw[hl] at y;cases y)⟩
 s:=fun b u z=>by rw[bA (bD z hi)];exact e.s _ _ z
 n:=e.n
theorem IsDs.snoc{v:V}{d:D}(h:IsD K H v d):∀ {vs:List V} {ds:List D},IsDs K H vs ds->IsDs K H (vs++[v]) (ds++[d])
 | _,_,.nil=>.cons h .nil
 | _,_,.cons r t=>.cons r (IsDs.snoc h t)
end
theorem zBi{α:Type}{r:Res α}{a:α}(h:noErr r=.ok a):r=.ok a:=by
 cases r with
 | ok b=>exact h
 | err c=>cases h
 | no=>cases h
theorem zGM{t:Tv}{f:Ev}{ρ:Rho}{d:D}{ds es:List D}(h:iL t f ρ (d::ds)=.ok es):
  (t (ρ++[.val d])=.ok false/\iL t f ρ ds=.ok es)∨(t (ρ++[.val d])=.ok true/\∃ e es',f (ρ++[.val d])=.ok e/\iL t f ρ ds=.ok es'/\es=e::es'):=by
 rw[iL] at h
 cases ht:noErr (t (ρ++[.val d])) with
 | no=>rw[ht] at h;cases h
 | err c=>rw[ht] at h;cases h
 | ok c=>
  rw[ht] at h;have ht':=zBi ht
  cases c with
  | false=>exact .inl ⟨ht',h⟩
  | true=>
   refine .inr ⟨ht',?_⟩
   have h':((noErr (f (ρ++[.val d]))).bind fun e=>(iL t f ρ ds).bind fun es=>.ok (e::es))=.ok es:=h
   cases hf:noErr (f (ρ++[.val d])) with
   | no=>rw[hf] at h';cases h'
   | err c=>rw[hf] at h';cases h'
   | ok e=>
    rw[hf] at h';have h'':((iL t f ρ ds).bind fun es=>.ok (e::es))=.ok es:=h'
    cases hr:iL t f ρ ds with
    | no=>rw[hr] at h'';cases h''
    | err c=>rw[hr] at h'';cases h''
    | ok es'=>
     rw[hr] at h'';cases h''
     exact⟨e,es',zBi hf,rfl,rfl⟩
theorem zBn{t:Tv}{f:Ev}{ρ:Rho}{c:Str}:∀ {ds:List D},iL t f ρ ds≠.err c
 | []=>fun h=>by cases h
 | d::ds=>fun h=>by
  rw[iL] at h
  cases ht:noErr (t (ρ++[.val d])) with
  | no=>rw[ht] at h;cases h
  | err c=>cases q:t (ρ++[.val d])<;>(rw[q] at ht;cases ht)
  | ok b=>
   rw[ht] at h
   cases b with
   | false=>exact zBn h
   | true=>
    have h':((noErr (f (ρ++[.val d]))).bind fun e=>(iL t f ρ ds).bind fun es=>.ok (e::es))=.err c:=h
    cases hf:noErr (f (ρ++[.val d])) with
    | no=>rw[hf] at h';cases h'
    | err c=>cases q:f (ρ++[.val d])<;>(rw[q] at hf;cases hf)
    | ok e=>
     rw[hf] at h'
     cases hr:iL t f ρ ds with
     | no=>simp only[Res.bind,hr] at h';cases h'
     | err c'=>exact zBn hr
     | ok es=>simp only[Res.bind,hr] at h';cases h'
@[irreducible] def PTs (X:Cx) (G:Gx) (ifs:List Expr) (t:Tv):Prop:=
 ∀(pins:List (Addr×Obj))(s:Shared)(σ:St)(H:Hp)(Q:Bool->Hp->Prop),Inv X pins σ H s->tTb X G t σ H Q->
  wpAny (model X.prog X.w) X.A (forIn ifs true fun c r=>if r=true then do let ok <-isTrue c X.env (eval c X.env);pure (ForInStep.yield ok) else pure (ForInStep.yield r)) (TP X pins σ Q) X.xe s
unseal PTs
theorem kB{X:Cx}{G:Gx}:PTs X G [] jK:=fun pins s σ H Q I ⟨ρ,Hi,R,o⟩=>wpAny_tests_nil ⟨H,I,Out.here (a:=true) o R.s⟩
end L3
namespace L3
open PySem PySem.Spec PyProof.Rows L2
unseal PEd PEf PTd PWd PAd PSd fB POd PGd jQ PId PSx nZ PTs
section
variable{X:Cx}{G:Gx}{elt iter:Expr}{x:Str}{px pos:Pos}{ifs:List Expr}{scope:Scope}{it:Fv}{t:Tv}{f:Ev}{k:Nat}
theorem zMX{M:Model}{A:Around}{α:Type}{m:Sem α}{itv u:Value}{s:Shared}{Q1:Unit->Shared->Prop}{R1:α->Shared->Prop}{E:Value->Shared->Prop}(h:wpAny M A (letOwnedTupleGo (.Name x px) itv u) Q1 E s)
  (k:∀ s5,Q1 () s5->wpAny M A m R1 E s5):wpAny M A m R1 E s:=by
 have key:=wpAny_bind (f:=fun _:Unit=>m) (wpAny_mono h (fun _ s5 h5=>k s5 h5) fun _ _ z=>z)
 have e:(letOwnedTupleGo (.Name x px) itv u >>= fun _=>m)=m:=pure_bind () fun _=>m
 rw[e] at key;exact key
theorem zHJ{N:List Str}(hN:N.Nodup)(h0:("" : Str)∉N)(hx:x≠("" : Str)):(N.map (msk x)++[x]).Nodup:=by
 rw[List.nodup_append];refine⟨?_,VG.mpr ⟨by simp,List.nodup_nil⟩,fun a ha b hb e=>?_⟩
 ·induction N with
  | nil=>exact List.nodup_nil
  | cons y N ih=>
   rw[Qs,VG];obtain⟨hy,hN⟩:=VG.mp hN;refine⟨fun hm=>?_,ih hN fun z=>h0 (Qc _ z)⟩
   obtain⟨z,hz,e⟩:=Qo.mp hm;unfold msk at e;by_cases c1:z=x
   ·by_cases c2:y=x
    ·exact hy (by rw[c2,<-c1];exact hz)
    ·rw[if_pos c1,if_neg c2] at e;exact h0 (by rw[e];exact Qb)
   ·by_cases c2:y=x
    ·rw[if_neg c1,if_pos c2] at e;exact h0 (by rw[<-e];exact Qc _ hz)
    ·rw[if_neg c1,if_neg c2] at e;exact hy (by rw[<-e];exact hz)
 ·obtain⟨z,hz,e1⟩:=Qo.mp ha
  rw[Qu] at hb;subst hb;subst e;unfold msk at e1;split at e1
  ·exact hx e1.symm
  ·rename_i c;exact c e1
structure CW where
 i:Nat
 v:List (Option V)
 H:Hp
 Hi:Hp
 ys:List V
 done:List D
 rest:List D
structure CS (Y:Cx) (pins:List (Addr×Obj)) (σ:St) (tn:Nat->Heap->Prop) (fp:List Addr) (Hi2 H2:Hp) (a:Addr) (m:Nat) (cp:Nat->Res (List D)) (es:List D) (c:CW) (s':Shared):Prop where
 inv:Inv Y pins (σ++c.v) c.H s'
 wid:c.v.length=m
 tn:tn c.i s'.heap
 fr:∀ b∈fp,c.H b=none
 ext:Ext Hi2 H2 c.Hi c.H
 acc:c.H a=some (.lst c.ys)
 hi:c.Hi a=none
 isd:IsDs Y.K c.Hi c.ys c.done
 len:c.done.length<=c.i
 cmp:cp c.i=.ok c.rest
 all:es=c.done++c.rest
def zSz(X:Cx)(pins:List (Addr×Obj))(σ:St)(use:Option (Value->Sem Unit))(Q':Value->Shared->Prop)(Qa:Addr->Hp->Prop):Prop:=
 ∀(C A:Addr)(m:Str->Option Value)(s4:Shared)(H3:Hp),s4.heap.Ns C m->(∀ h',Heap.SameBut C s4.heap h'->Inv X pins σ H3 { s4 with heap:=h' })->tW X pins H3 C->Qa A H3->
  compPost (model X.prog X.w) X.A X.xe use Q' (.ref A) C (.ok .next) s4
theorem zCP(hc:X.calm=true/\TB X.K X.mg G.Bi G.B)(hr:Room k X.A)(Bk:BlkOk X x scope)(hN:X.N.Nodup)(h0:("" : Str)∉X.N)(hx0:x≠("" : Str))(hi:PId X G (.Name x px) iter it)
  (hb:∀(C:Addr)(s₂:Shared)(H₂:Hp)(fp:List Addr)(G':Gx),Good (cxC X x scope C s₂ H₂ fp) G' k->PTs (cxC X x scope C s₂ H₂ fp) G' ifs t/\PEd (cxC X x scope C s₂ H₂ fp) G' elt f)
  (hs:∀ x,foldedSetIterable iter X.env x=pure x:=by intro _;rfl)
  {pins:List (Addr×Obj)} {s:Shared} {σ:St} {H Hi:Hp} {ρ:Rho} {use:Option (Value->Sem Unit)} {Q':Value->Shared->Prop} {Qa:Addr->Hp->Prop} {cpos:Pos} (I:Inv X pins σ H s) (R:lU X G Hi H σ ρ)
  (ou:Out G Hi H ((jR it t f) ρ) fun ds Hi' H'=>∀ a,zLk X.K H Hi' H' a ds->Qa a H') (hend:zSz X pins σ use Q' Qa):
  wpAny (model X.prog X.w) X.A (comprehension (.ListComp elt [⟨.Name x px,iter,ifs,0⟩] scope pos) scope X.env cpos (newList []) false (eval iter X.env) use) Q' X.xe s:=by
 refine wpAny_comprehension_free (use:=use) rfl hs (zLD (Bk.cl I)) Bk.kind Bk.names ?_
 refine thn (hi pins s σ H (fun J H2=>∃ ds Hi2,Ext Hi H Hi2 H2/\xQ X.K Hi2 J ds/\Out G Hi2 H2 (if ds.length<=16777215 then iL t f ρ ds else .no) fun ds Hi' H'=>∀ a,zLk X.K H Hi' H' a ds->Qa a H') I
  ⟨ρ,Hi,R,(Out.bind ou).imp fun ds Hi2 H2 e2 o2 J gv=>⟨ds,Hi2,e2,gv,o2⟩⟩) fun v s1 h1=>thn h1 fun itv s2 h2=>?_
 obtain⟨itA,fp,tn,J,H2,rfl,I2,T,st2,f2,ds,Hi2,e2,gv,ou2⟩:=h2
 have hlen:ds.length<=16777215:=by
  by_cases hlen:ds.length<=16777215
  ·exact hlen
  ·rw[if_neg hlen] at ou2;exact ou2.elim
 rw[if_pos hlen] at ou2
 cases hes:iL t f ρ ds with
 | no=>rw[hes] at ou2;exact ou2.elim
 | err c=>exact absurd hes zBn
 | ok es=>
  rw[hes] at ou2;have R2:lU X G Hi2 H2 σ ρ:=R.grow e2;refine wpAny_newObj_type (wpAny_newFunctionEnv Bk.cell (by intro y hy;simp at hy) (fun h₁ hns₁ hsb₁=>?_) Bk.kind)
  dsimp only at hns₁ hsb₁ ⊢
  generalize hH2:s2.heap.push { cls:=.type "list", dict:=none,data:=.seq ([]:List Value).toArray }=HP at hns₁ hsb₁ ⊢;have hC:HP.objs.size=s2.heap.objs.size+1:=by rw[<-hH2,Heap.size_push]
  have hDC:s2.heap.objs.size≠HP.objs.size:=by rw[hC];omega
  have ltC:∀ {b:Addr} {o:Obj},s2.heap.get? b=some o->b≠HP.objs.size:=fun e=>by rw[hC];exact Qt (VF (Heap.lt_size e))
  have old:∀ b o,s2.heap.get? b=some o->h₁.get? b=some o:=fun b o e=>hsb₁.extBut b o (ltC e) (Heap.get?_push_of_some _ (hH2 ▸ Heap.get?_push_of_some _ e))
  have hacc:h₁.get? s2.heap.objs.size=some { cls:=.type "list", data:=.seq ([]:List Value).toArray 0 }:=hsb₁.extBut _ _ hDC (Heap.get?_push_of_some _ (hH2 ▸ Heap.get?_push_size _ rfl));have hfl:∀ b∈fp,b<s2.heap.objs.size:=fun b hb=>by obtain⟨o,e,_⟩:=T.obj _ _ st2 b hb;exact Heap.lt_size e
  have IE:=zRM (t:=s2.toks+([]:List (Str×Value)).length) I2 Bk f2 hfl (Qg _) (by rw[hC];omega) hDC old hacc hns₁
  have sub:=wI scope.names [] (Bk.cl I2) (fun y c e=>nomatch e)
  have H2D:H2 s2.heap.objs.size=none:=I2.hok.fresh (Qg _);have HD:H s2.heap.objs.size=none:=e2.h.none H2D;have Hi2D:Hi2 s2.heap.objs.size=none:=e2.s.none H2D;generalize hX:cxC X x scope HP.objs.size s2 H2 fp=Y at IE
  have GY:Good Y ⟨G.B,G.Bi,fun _ _=>False⟩ k:=by
   subst hX;exact⟨hc.1,hr,fun pins σ H s e s' _ h=>by obtain⟨_,_,_,_,_,c,_,z⟩:=h;exact z.elim,PassesOwn.never,hc.2⟩
  obtain⟨hts,hel⟩:=(hX ▸ hb HP.objs.size s2 H2 fp ⟨G.B,G.Bi,fun _ _=>False⟩ (hX.symm ▸ GY):PTs Y ⟨G.B,G.Bi,fun _ _=>False⟩ ifs t/\PEd Y ⟨G.B,G.Bi,fun _ _=>False⟩ elt f)
  have stat:∀ {H':Hp},(∀ b∈fp,H' b=none)->∀ b∈fp,tW Y pins H' b:=fun hn b hb=>by
   subst hX;refine⟨hn b hb,?_,fun z=>?_,.inl hb,fun y c e=>(f2 b hb).2.2.2.2.1 y c (sub y c e),(f2 b hb).2.2.2.2.2⟩
   ·show b≠HP.objs.size
    rw[hC];exact Qt (VF (hfl b hb))
   ·rcases Qd.mp (I2.stkSub b z) with w | w
    ·exact(f2 b hb).2.1 w
    ·exact(f2 b hb).2.2.1 w
  have YN:Y.N.Nodup:=by subst hX;exact zHJ hN h0 hx0
  have Yx:Y.N[σ.length]?=some x:=by
   subst hX;show(X.N.map (msk x)++[x])[σ.length]?=some x
   rw[QS (by rw[Qe,I2.len];omega),Qe,I2.len,V4];rfl
  have Yl:Y.env.scope.names.lookup x=some .local:=by subst hX;exact lookup_relabel_local Bk.loc
  have Ye:Y.env=compEnvC scope (zDI X.env scope.names []) HP.objs.size X.env:=by subst hX;rfl
  have Yxe:∀ e s,¬ Y.xe e s:=by subst hX;exact fun _ _ h=>h
  have tn1:tn 0 h₁:=T.keep _ _ _ st2 fun b _ o e=>old b o e
  have fS:∀ s3:Shared,s3={ s2 with heap:=h₁,toks:=s2.toks+([]:List (Str×Value)).length }->
    codeAny (model X.prog X.w) X.A (.compLoop (.ListComp elt [⟨.Name x px,iter,ifs,0⟩] scope pos) 0 (.ref itA) (.ref s2.heap.objs.size) Y.env) (compPost (model X.prog X.w) X.A X.xe use Q' (.ref s2.heap.objs.size) HP.objs.size) s3:=by
   rintro s3 rfl
   subst hX
   have fr0:∀ b∈fp,upd H2 s2.heap.objs.size (.lst []) b=none:=fun b hb=>by
    rw[bA (Qt (hfl b hb))];exact(f2 b hb).1
   refine codeAny_compLoop_tests (fun n s'=>∃ c:CW,n=ds.length-c.i/\CS (cxC X x scope HP.objs.size s2 H2 fp) pins σ tn fp Hi2 H2 s2.heap.objs.size 1 (fun i=>iL t f ρ (ds.drop i)) es c s') ?_ ds.length
    ⟨⟨0,[none],_,Hi2,[],[],es⟩,rfl,⟨IE,rfl,tn1,fr0,(Ext.refl e2.s).trans (Ext.newF e2.s H2D),aY,Hi2D,.nil,Qg _,hes,rfl⟩⟩
   ·rintro n s3 ⟨⟨i,vv,H3,Hi3,ys,done,rest⟩,rfl,I3,wd3,st3,fr3,e3,hD3,hiD3,rd3,hl3,hr3,hes3⟩
    dsimp only at I3 wd3 st3 fr3 e3 hD3 hiD3 rd3 hl3 hr3 hes3 ⊢
    obtain⟨v,rfl⟩:∃ v,vv=[v]:=by
     match vv,wd3 with
     | [v],_=>exact⟨v,rfl⟩
    obtain⟨w1,w2⟩:=gv Hi3 H3 e3.i e3.s i;have lift:∀ {α:Type} {m:Sem α} {Q':α->Shared->Prop} {E:Value->Shared->Prop} {s':Shared},wpAny (model X.prog X.w) X.A m Q' (cxC X x scope HP.objs.size s2 H2 fp).xe s'->wpAny (model X.prog X.w) X.A m Q' E s':=fun h=>wpAny_mono h (fun _ _ z=>z) fun e s z=>(Yxe e s z).elim
    by_cases hlt:i<ds.length
    ·obtain⟨d,hd⟩:∃ d,ds[i]?=some d:=⟨_,Ql hlt⟩
     obtain⟨go,yl⟩:=w2 d hd
     have e4:ds.drop i=d::ds.drop (i+1):=by
      rw[Ql hlt] at hd;cases hd;exact V3 hlt
     rw[e4] at hr3;refine thn (T.item (cxC X x scope HP.objs.size s2 H2 fp) rfl rfl rfl hc.1 i pins s3 _ H3 _ I3 (stat fr3) st3 go) fun r s4 ⟨u,hru,h4⟩=>?_
     subst hru;refine zMX h4 fun s5 h5=>?_
     obtain⟨xv,H5,I5,r5,y5,st5,fr5⟩:=h5;obtain⟨Hi5,e5,rd5⟩:=yl xv H5 y5;have I5':=I5.pinned (stat fr5) (T.obj _ _ st5);refine wpAny_assign_Name (uI I5' YN Yx (.inl Yl) r5 (fun s6 I6=>?_) (.inr Yl))
     have es6:(σ++[v]).set σ.length (some xv)=σ++[some xv]:=by rw[XZ _ _ (Qg _),V4];rfl
     rw[es6] at I6;have E5:Ext Hi2 H2 Hi5 H5:=e3.trans e5;have R5:lU (cxC X x scope HP.objs.size s2 H2 fp) ⟨G.B,G.Bi,fun _ _=>False⟩ Hi5 H5 (σ++[some xv]) (ρ++[.val d]):=Rel.snoc (R2.grow E5) rd5
     obtain⟨hD5,hiD5⟩:=e5.out hD3 hiD3;have rd5':=rd3.mono e5.i
     have again:∀ {H8 Hi8:Hp} {ys':List V} {done' rest':List D} {s8:Shared},Inv (cxC X x scope HP.objs.size s2 H2 fp) (pins++vJ fp s5.heap) (σ++[some xv]) H8 s8->Ext Hi2 H2 Hi8 H8->H8 s2.heap.objs.size=some (.lst ys')->Hi8 s2.heap.objs.size=none->IsDs X.K Hi8 ys' done'->done'.length<=i+1->
       iL t f ρ (ds.drop (i+1))=.ok rest'->es=done'++rest'->∃ m,m<ds.length-i/\∃ c:CW,m=ds.length-c.i/\CS (cxC X x scope HP.objs.size s2 H2 fp) pins σ tn fp Hi2 H2 s2.heap.objs.size 1 (fun i=>iL t f ρ (ds.drop i)) es c s8:=fun {H8 Hi8 ys' done' rest' s8} I8 E8 a1 a2 a3 a4 a5 a6=>by
      refine⟨ds.length-(i+1),by omega,⟨i+1,[some xv],H8,Hi8,ys',done',rest'⟩,rfl,⟨I8.unpinned,rfl,T.keep _ _ _ st5 fun b hb o e=>(I8.pin (b,o) (Qz _ (Qz _ (fP hb e)))).1,fun b hb=>?_,E8,a1,a2,a3,a4,a5,a6⟩⟩
      obtain⟨o,e,_⟩:=T.obj _ _ st5 b hb;exact(I8.pin (b,o) (Qz _ (Qz _ (fP hb e)))).2.1
     rcases zGM hr3 with⟨ht,hr4⟩ | ⟨ht,e,es',hf,hr4,hee⟩
     ·refine lift (thn (hts _ s6 _ H5 (fun b H'=>b=false/\∃ Hi',Ext Hi5 H5 Hi' H') I6 ⟨_,Hi5,R5,by rw[ht];exact fun Hi' H' e=>⟨rfl,Hi',e⟩⟩) fun b s7 h7=>?_)
      obtain⟨H7,I7,rfl,Hi7,e7⟩:=h7;obtain⟨hD7,hiD7⟩:=e7.out hD5 hiD5;exact again I7 (E5.trans e7) hD7 hiD7 (rd5'.mono e7.i) (by omega) hr4 hes3
     ·refine lift (thn (hts _ s6 _ H5 (fun b H'=>b=true/\∃ Hi',Ext Hi5 H5 Hi' H') I6 ⟨_,Hi5,R5,by rw[ht];exact fun Hi' H' e=>⟨rfl,Hi',e⟩⟩) fun b s7 h7=>?_)
      obtain⟨H7,I7,rfl,Hi7,e7⟩:=h7;obtain⟨hD7,hiD7⟩:=e7.out hD5 hiD5;simp only[if_true];refine lift (thn (hel _ s7 _ H7 (fun w H'=>∃ Hi',Ext Hi7 H7 Hi' H'/\IsD X.K Hi' w e) I7 ⟨_,Hi7,R5.grow e7,by rw[hf];exact fun Hi' H' ee w hw=>⟨Hi',ee,hw⟩⟩) fun u8 s8 h8=>?_)
      obtain⟨w8,H8,I8,r8,Hi8,e8,rw8⟩:=h8;obtain⟨hD8,hiD8⟩:=e8.out hD7 hiD7;have rdy:IsDs X.K Hi8 ys done:=(rd5'.mono e7.i).mono e8.i;refine lift (thn (uQ (X:=(cxC X x scope HP.objs.size s2 H2 fp)) _ s8 _ H8 (.ref s2.heap.objs.size) [w8] (.ref s2.heap.objs.size) [u8] (fun _ H'=>H'=upd H8 s2.heap.objs.size (.lst (ys++[w8]))) I8 rfl (.cons r8 .nil) ⟨_,ys,w8,rfl,rfl,hD8,?_,rfl⟩) fun _ s9 h9=>?_)
      ·rw[rdy.length]
       exact Vq hl3 (Qp hlt (QD hlen (by decide)))
      ·obtain⟨_,H9,I9,_,rfl⟩:=h9
       refine again I9 (Ext.rewrite ((E5.trans e7).trans e8) H2D hiD8 ⟨_,hD8⟩) aY hiD8 (rdy.snoc rw8) (by rw[Qm];exact XN hl3) hr4 ?_
       rw[hes3,hee,QY];rfl
    ·rw[VN (by omega),iL] at hr3
     cases hr3;refine thn (T.done (cxC X x scope HP.objs.size s2 H2 fp) rfl rfl rfl hc.1 i pins s3 _ H3 _ I3 (stat fr3) st3 (w1 (by omega))) fun r s4 ⟨hrn,I4⟩=>?_
     subst hrn;obtain⟨m4,hn4,_⟩:=I4.loc;have fC:H3 HP.objs.size=none:=I4.free;have nC:∀ b u,H3 b=some u->b≠HP.objs.size:=fun b u e z=>by rw[z,fC] at e;cases e
     have U4:=I4.base;refine hend HP.objs.size s2.heap.objs.size m4 s4 H3 hn4 (fun h' hs'=>?_) (I2.fpOk (by rw[hC];omega) fC) ?_
     ·have kp:∀ b o,b≠HP.objs.size->s4.heap.get? b=some o->h'.get? b=some o:=fun b o hb e=>hs'.extBut b o hb e
      refine Inv.call' I2 (ch:=fp) I4.os ⟨fun b o e n hb hx=>kp b o (ltC e) (U4.keep b o e n hb hx),fun b o e n hb hx=>?_,U4.free,fun b o e hx=>?_,U4.tups,U4.frzs,U4.tbls⟩ (fun b u e=>?_) I4.bare (fun b hb=>⟨(f2 b hb).2.2.2.1,(f2 b hb).2.1,(f2 b hb).2.2.2.2.1,(f2 b hb).2.2.2.2.2⟩)
      ·obtain⟨sl,q⟩:=U4.slot b o e n hb hx
       exact⟨sl,kp b _ (ltC e) q⟩
      ·obtain⟨o',q⟩:=U4.there b o e hx
       exact⟨o',kp b _ (ltC e) q⟩
      ·refine(I4.hok b u e).stay (fun c v hc q=>kp c v ?_ q) (fun _ q=>q) fun _ _ q=>q
       rcases hc with z | z
       ·rw[z];exact nC b u e
       ·exact nC c _ z
     ·refine ou2 Hi3 H3 e3 _ ⟨HD,hiD3,ys,hD3,?_⟩
      rw[hes3,QK];exact rd3
  rw[Ye] at fS;exact codeAny_compStart_list (fS _ rfl) (T.self _ 0 _ _ _ tn1 (fS _ rfl))
theorem zNv(hc:X.calm=true/\TB X.K X.mg G.Bi G.B)(hr:Room k X.A)(Bk:BlkOk X x scope)(hN:X.N.Nodup)(h0:("" : Str)∉X.N)(hx0:x≠("" : Str))(hi:PId X G (.Name x px) iter it)
  (hb:∀(C:Addr)(s₂:Shared)(H₂:Hp)(fp:List Addr)(G':Gx),Good (cxC X x scope C s₂ H₂ fp) G' k->PTs (cxC X x scope C s₂ H₂ fp) G' ifs t/\PEd (cxC X x scope C s₂ H₂ fp) G' elt f)
  (hs:∀ x,foldedSetIterable iter X.env x=pure x:=by intro _;rfl):PEf X G (.ListComp elt [⟨.Name x px,iter,ifs,0⟩] scope pos) (jR it t f):=by
 intro pins s σ H Q I w;obtain⟨ρ,Hi,R,ou⟩:=w;rw[eval_ListComp];refine zCP hc hr Bk hN h0 hx0 hi hb hs (use:=none) (Qa:=fun a H'=>Q (.ref a) H') I R ou fun C A m s4 H3 hn hI _ q=>?_
 exact⟨m,hn,fun h' hs'=>⟨.ref A,H3,hI h' hs',rfl,q⟩⟩
def PC(X:Cx)(e:Expr)(t:TE):Prop:=∀(pins:List (Addr×Obj))(s:Shared)(σ:St)(H:Hp)(Q:VK),Inv X pins σ H s->t σ H Q->∀(u:Value->Sem Unit)(Q':Unit->Shared->Prop),
 (∀(C:Addr)(m:Str->Option Value)(s4:Shared)(v:V)(w:Value)(H3:Hp),s4.heap.Ns C m->(∀ h',Heap.SameBut C s4.heap h'->Inv X pins σ H3 { s4 with heap:=h' })->tW X pins H3 C->dI v w->Q v H3->
  wpAny (model X.prog X.w) X.A (u w) (fun _ s''=>∃ m,s''.heap.Ns C m/\∀ h',Heap.SameBut C s''.heap h'->Q' () { s'' with heap:=h' }) X.xe s4)->wpAny (model X.prog X.w) X.A (evalThenUse e X.env u) Q' X.xe s
theorem PC.wk{X:Cx}{e:Expr}{t t':TE}(h:PC X e t)(w:∀ σ H Q,t' σ H Q->t σ H Q):PC X e t':=fun pins s σ H Q I q=>h pins s σ H Q I (w σ H Q q)
@[irreducible] def PCd (X:Cx) (G:Gx) (e:Expr) (f:Ev):Prop:=PC X e (tD X G f)
unseal PCd
@[irreducible] def PCf (X:Cx) (G:Gx) (e:Expr) (f:Fv):Prop:=PC X e (tF X G f)
unseal PCf
theorem zND(hc:X.calm=true/\TB X.K X.mg G.Bi G.B)(hr:Room k X.A)(Bk:BlkOk X x scope)(hN:X.N.Nodup)(h0:("" : Str)∉X.N)(hx0:x≠("" : Str))(hi:PId X G (.Name x px) iter it)
  (hb:∀(C:Addr)(s₂:Shared)(H₂:Hp)(fp:List Addr)(G':Gx),Good (cxC X x scope C s₂ H₂ fp) G' k->PTs (cxC X x scope C s₂ H₂ fp) G' ifs t/\PEd (cxC X x scope C s₂ H₂ fp) G' elt f)
  (hs:∀ x,foldedSetIterable iter X.env x=pure x:=by intro _;rfl):PCf X G (.ListComp elt [⟨.Name x px,iter,ifs,0⟩] scope pos) (jR it t f):=by
 intro pins s σ H Q I w u Q' hend;obtain⟨ρ,Hi,R,ou⟩:=w;rw[arm_evalThenUse_ListComp];refine wpAny_bind (zCP hc hr Bk hN h0 hx0 hi hb hs (use:=some u) (Q':=fun _ s=>wpAny (model X.prog X.w) X.A (pure ()) Q' X.xe s) (Qa:=fun a H'=>Q (.ref a) H') I R ou fun C A m s4 H3 hn hI fo q=>?_)
 refine thn (hend C m s4 (.ref A) (.ref A) H3 hn hI fo rfl q) fun _ s5 h5=>?_
 obtain⟨m5,hn5,h5⟩:=h5;exact⟨m5,hn5,fun h' hs'=>wpAny_pure (h5 h' hs')⟩
theorem PCf.d(h:PCf X G e fs):PCd X G e (eF fs):=PC.wk h fun σ H Q q=>by
 obtain⟨ρ,Hi,R,ou⟩:=q;refine⟨ρ,Hi,R,?_⟩
 cases z:fs ρ with
 | no=>unfold eF at ou;rw[z] at ou;exact ou
 | err c=>unfold eF at ou;rw[z] at ou;exact ou
 | ok ds=>
  unfold eF at ou;rw[z] at ou
  intro Hi1 H1 e1 a n;obtain⟨n1,n2,xs,n3,n4⟩:=n;have o2:∀ Hi' H',Ext Hi H Hi' H'->∀ v,IsD X.K Hi' v (.lst ds)->Q v H':=ou;exact o2 _ _ (e1.hold n1 n3 n2) (.ref a) (.lst (SqL.of aY) (n4.mono (dG n2 _)))
theorem zNo{i:Nat}{y:Str}{e:Expr}{te:TE}{pos' pos:Pos}(hN:X.N.Nodup)(hi:X.N[i]?=some y)(hx:Loc X.env.scope y)(he:PC X e te)(hs:swapsWith e (some (.Name y pos')) pos.line X.env=pure true)
  (hf:X.fn y=true∨X.env.scope.names.lookup y=some .local):PS X (.Assign [.Name y pos'] e pos) (zRr te (L2.gName i)):=by
 intro pins s σ H E I h;rw[exec_Assign_Name_used _ _ _ _ hs];refine wpAny_bind (wpAny_standAt (wpAny_bind ?_))
 refine he pins s σ H _ I h _ _ fun C m s4 v w H3 hn hI fo r q=>?_
 have I4:Inv X pins σ H3 s4:=hI s4.heap (Heap.SameBut.refl _ _);refine wpAny_assign_Name (zDn I4 hN hi hx r (fun s5 I5 sb=>?_) hf)
 obtain⟨a,sb,ha⟩:=sb
 have aC:C≠a:=by
  rcases ha with rfl | ha
  ·exact fo.2.1
  ·exact fun z=>fo.2.2.2.2.1 y a ha z.symm
 refine⟨m,hn.sameBut sb aC,fun h' hs'=>wpAny_pure ?_⟩
 have fC:=fo.1;have nC:∀ b u,H3 b=some u->b≠C:=fun b u e z=>by rw[z,fC] at e;cases e
 have kp:∀ b o,b≠C->s5.heap.get? b=some o->h'.get? b=some o:=fun b o hb e=>hs'.extBut b o hb e
 refine⟨σ.set i (some v),H3,?_,q⟩
 refine Inv.call' I5 (ch:=[C]) rfl ⟨fun b o e n hb hx=>kp b o (by simpa using hx) e,fun b o e n hb hx=>⟨o.slots,kp b _ (by simpa using hx) e⟩,fun b o e n hx=>n,fun b o e hx=>⟨o,kp b _ (by simpa using hx) e⟩,fun _ _ q=>q,fun _ _ _ q=>q,fun _ ps q=>⟨#[],by simpa using q⟩⟩ (fun b u e=>?_) I5.bare (fun b hb=>?_)
 ·refine(I5.hok b u e).stay (fun c v hc q=>kp c v ?_ q) (fun _ q=>q) fun _ _ q=>q
  rcases hc with z | z
  ·rw[z];exact nC b u e
  ·exact nC c _ z
 ·have e:b=C:=by simpa using hb
  subst e;exact⟨fo.2.2.2.1,fo.2.1,fo.2.2.2.2.1,fo.2.2.2.2.2⟩
theorem zMx{i:Nat}{y:Str}{e:Expr}{f:Ev}{pos' pos:Pos}(hN:X.N.Nodup)(hi:X.N[i]?=some y)(hx:Loc X.env.scope y)(he:PCd X G e f)(hs:swapsWith e (some (.Name y pos')) pos.line X.env=pure true)
  (hf:X.fn y=true∨X.env.scope.names.lookup y=some .local:=by first | exact .inl rfl | exact .inr rfl | assumption):PSd X G (.Assign [.Name y pos'] e pos) (cW i f):=PS.wk (zNo hN hi hx he hs hf) fun E σ H q=>by
 obtain⟨ρ,Hi,R,h⟩:=q;exact⟨ρ,Hi,R,oI R h fun d Hi' H' _ e h' v r=>h' _ Hi' H' (Same.refl _) ((R.grow e).set r)⟩
end
end L3
namespace L3
open PySem PySem.Spec PyProof.Rows L2
unseal PEd PEf PTd PWd PAd PSd fB POd PGd jQ PId PSx nZ PTs PCd PCf
def zRj(sc:Scope)(N:List Str)(x:Str)(scope:Scope):Bool:=
 scope.names.all (fun y=>y.2 != .cell) && scope.names.lookup x==some .local && scope.names.all (fun y=>y.2 != .local || scope.names.lookup y.1==some .local)
  && scope.names.all (fun p=>p.2 != .free || (sc.names.lookup p.1==some .cell || sc.names.lookup p.1==some .free)) && N.all (fun y=>y==x || scope.names.lookup y != some .local) && (scope.names.lookup ("" : Str)).isNone && !N.contains ("" : Str) && x != ("" : Str)
section
variable{X:Cx}{G:Gx}{elt iter:Expr}{x:Str}{px pos:Pos}{ifs:List Expr}{scope sc:Scope}{it:Fv}{t:Tv}{f:Ev}{k:Nat}{N:List Str}
theorem zMq(hk:scope.kind=.function)(hsc:X.env.scope=sc)(hN:X.N=N)(h:zRj sc N x scope=true):BlkOk X x scope/\("" : Str)∉X.N/\x≠("" : Str):=by
 unfold zRj at h;simp only[Va] at h;obtain⟨⟨⟨⟨⟨⟨⟨h1,h2⟩,h3⟩,h4⟩,h5⟩,h6⟩,h7⟩,h8⟩:=h;subst hN hsc;refine⟨⟨hk,fun y hy e=>?_,beq_iff_eq.mp h2,fun y hy e=>?_,fun p hp e=>?_,fun y hy hne e=>?_,?_⟩,fun z=>?_,fun z=>?_⟩
 ·have:=Vl.mp h1 y hy
  rw[e] at this;cases this
 ·have:=Vl.mp h3 y hy
  rw[e] at this;simpa using this
 ·have:=Vl.mp h4 p hp
  rw[e] at this;have q:X.env.scope.names.lookup p.1=some .cell∨X.env.scope.names.lookup p.1=some .free:=by simpa using this
  exact q
 ·have:=Vl.mp h5 y hy
  rw[e] at this;simp[hne] at this
 ·simpa using h6
 ·have:X.N.contains ("" : Str)=true:=by simpa using z
  rw[this] at h7;cases h7
 ·rw[z] at h8;simp at h8
theorem eY(W:Good X G k)(hnd:N.Nodup)(hk:scope.kind=.function)(hsc:X.env.scope=sc)(hN:X.N=N)(h:zRj sc N x scope=true)(hi:PId X G (.Name x px) iter it)
  (hb:∀(C:Addr)(s₂:Shared)(H₂:Hp)(fp:List Addr)(G':Gx),Good (cxC X x scope C s₂ H₂ fp) G' k->PTs (cxC X x scope C s₂ H₂ fp) G' ifs t/\PEd (cxC X x scope C s₂ H₂ fp) G' elt f)
  (hs:∀ x,foldedSetIterable iter X.env x=pure x:=by intro _;rfl):PEf X G (.ListComp elt [⟨.Name x px,iter,ifs,0⟩] scope pos) (jR it t f):=by
 obtain⟨b,h0,hx⟩:=zMq hk hsc hN h;exact zNv ⟨W.calm,W.tb⟩ W.room b (hN ▸ hnd) h0 hx hi hb hs
theorem zGf(W:Good X G k)(hnd:N.Nodup)(hk:scope.kind=.function)(hsc:X.env.scope=sc)(hN:X.N=N)(h:zRj sc N x scope=true)(hi:PId X G (.Name x px) iter it)
  (hb:∀(C:Addr)(s₂:Shared)(H₂:Hp)(fp:List Addr)(G':Gx),Good (cxC X x scope C s₂ H₂ fp) G' k->PTs (cxC X x scope C s₂ H₂ fp) G' ifs t/\PEd (cxC X x scope C s₂ H₂ fp) G' elt f)
  (hs:∀ x,foldedSetIterable iter X.env x=pure x:=by intro _;rfl):PCf X G (.ListComp elt [⟨.Name x px,iter,ifs,0⟩] scope pos) (jR it t f):=by
 obtain⟨b,h0,hx⟩:=zMq hk hsc hN h;exact zND ⟨W.calm,W.tb⟩ W.room b (hN ▸ hnd) h0 hx hi hb hs
end
section
variable{X:Cx}{G:Gx}{a b:Expr}{pos:Pos}{f:Fv}{g:Ev}
theorem zPU:zBy X (fun xs H Q=>(∃ i,xs=[.int i]/\Q (.int i) H)∨∃ k,xs=[.bl k]/\Q (.int (if k then 1 else 0)) H) zPS:=⟨fun a c z=>(by
  unfold zPS at z;split at z<;>cases z),fun Hi H vs ds d Q s r z q=>by
  unfold zPS at z;split at z
  ·cases z
   obtain⟨v,rfl,h⟩:=r.one;exact .inl ⟨_,by rw[h.intI],q _ Hi H (Ext.refl s) (.int _)⟩
  ·cases z
   obtain⟨v,rfl,h⟩:=r.one;exact .inr ⟨_,by rw[h.blI],q _ Hi H (Ext.refl s) (.int _)⟩
  ·cases z⟩
theorem IsDs.rep{K:Fg_}{H:Hp}{xs:List V}{ds:List D}(h:IsDs K H xs ds):∀ n:Nat,IsDs K H (List.replicate n xs).flatten (List.replicate n ds).flatten
 | 0=>.nil
 | n+1=>by
  rw[Vz,Vz,VJ,VJ];exact h.append (IsDs.rep h n)
theorem zFg(ha:PEf X G a f)(hb:PEd X G b g):PEf X G (.BinOp a .Mult b pos) (zOp f g):=PE.wk (zJF zPB ha hb) fun σ H Q q=>by
 obtain⟨ρ,Hi,R,ou⟩:=q;refine⟨ρ,Hi,R,(Out.bind ou).imp fun ds Hi1 H1 e1 o1 l nl=>?_⟩
 refine⟨ρ,Hi1,R.grow e1,(Out.bind o1).imp fun d Hi2 H2 e2 o2 v rv=>?_⟩
 cases d<;>first | exact o2.elim | skip
 rename_i k
 obtain⟨n1,n2,xs,n3,n4⟩:=nl;have o2':Out G Hi2 H2 (if 0<=k/\k<2^62/\ds.length*k.toNat<=16777216 then Res.ok (List.replicate k.toNat ds).flatten else .no) _:=o2;by_cases hz:0<=k/\k<2^62/\ds.length*k.toNat<=16777216
 ·rw[if_pos hz] at o2'
  refine⟨l,k,xs,rfl,rv.intI,e2.h.at n3,by omega,by omega,by rw[n4.length];exact hz.2.2,fun p hp=>?_⟩
  exact o2' _ _ (Ext.newF e2.s hp) p ⟨(e1.h.trans e2.h).none hp,e2.s.none hp,_,aY,(n4.mono e2.i).rep _⟩
 ·rw[if_neg hz] at o2';exact o2'.elim
end
section
variable{es r:List Expr}{a b f:Expr}{k:Nat}{p:Pos}{x:Str}{c:Const}{env:Env}
theorem nT:starEach (.Tuple es k p::r) env=(false,eval (.Tuple es k p) env)::starEach r env:=rfl
theorem zFK:starEach (.List es p::r) env=(false,eval (.List es p) env)::starEach r env:=rfl
theorem bJ{o:Operator}:starEach (.BinOp a o b p::r) env=(false,eval (.BinOp a o b p) env)::starEach r env:=rfl
theorem aN:starEach (.Subscript a b p::r) env=(false,eval (.Subscript a b p) env)::starEach r env:=rfl
theorem aB:starEach (.Name x p::r) env=(false,eval (.Name x p) env)::starEach r env:=rfl
theorem bM:starEach (.Constant c k p::r) env=(false,eval (.Constant c k p) env)::starEach r env:=rfl
theorem aM{ks:List Keyword}:starEach (.Call f es ks p::r) env=(false,eval (.Call f es ks p) env)::starEach r env:=rfl
end
section
variable{X:Cx}{G:Gx}{e st:Expr}{te tk:TE}{lo hi:Option Expr}{tl th:TO}{pos p2:Pos}{f g:Ev}{l h:Ov}
end
end L3
set_option maxRecDepth 100000
namespace L3
open PySem PySem.Spec PyProof.Rows L2
section
variable{prog:Program}{w:World}{A:Around}{E:Value->Shared->Prop}{s:Shared}
end
theorem zKM:bootBuiltins "reversed" = some (.type "reversed"):=by first | rfl | decide +kernel
section
unseal PEd PEf PTd PWd PAd PSd fB POd PGd jQ PId PSx nZ PTs PCd PCf
variable{X:Cx}{G:Gx}{fs:Fv}{f:Ev}
end
end L3
namespace L3
open PySem PySem.Spec PyProof.Rows L2
unseal PEd PEf PTd PWd PAd PSd fB POd PGd jQ PId PSx nZ PTs PCd PCf
section
variable{X:Cx}{G:Gx}
def zSc(K:PySem.W.Frag):List V->Hp->VK->Prop:=fun xs H Q=>∃(a:Addr)(ns:List Int),xs=[.ref a]/\(SqL K H a (ns.map V.int)∨SqT K H a (ns.map V.int))/\Q (.int ns.sum) H
theorem wE(ns:List Int):∀ j,preSum (fun i=>ns.getD i 0) j=(ns.take j).sum
 | 0=>by rw[X0];rfl
 | j+1=>by
  rw[preSum,wE ns j,XM];rw[Qx]
  cases ns[j]? with
  | none=>simp
  | some x=>simp
theorem zAy{ns:List Int}{its:List Value}(r:dW (ns.map V.int) its){i:Nat}{v:Value}(h:its[i]?=some v):∃ t,v=.int (ns.getD i 0) t:=by
 have hl:=r.length;rw[Qe] at hl;have hi:=(QC.mp h).1
 have hx:(ns.map V.int)[i]?=some (.int (ns.getD i 0)):=by
  rw[Qr,Qx,Ql (by omega)];rfl
 obtain⟨u,hu,ru⟩:=r.get hx;rw[h] at hu;cases hu;exact ru
theorem kE(hc:X.calm=true):tP X (.builtin "sum") (zSc X.K):=by
 intro pins s σ H xs us Q I r h;obtain⟨a,ns,rfl,hq,q⟩:=h;obtain⟨u,rfl,ru⟩:=r.one;cases ru;have hh:=I.ok.hd hc;rcases hq with hq | hq
 ·obtain⟨its,rv,p,hz⟩:=I.list hq
  have hlt:a<s.heap.objs.size:=by obtain⟨_,e,_⟩:=p.isList;exact Heap.lt_size e
  have hl:=rv.length;rw[Qe] at hl;refine call_sum_walkG (wpAny_pyIter_list p.isList ?_)
  refine⟨s.heap.objs.size,_,_,_,_,_,fun i=>ns.getD i 0,rfl,Walks.list (A:=X.A.in1) hh s.heap.objs.size a (Qt hlt) its.toArray,⟨⟨_,Heap.get?_push_size _ rfl,rfl,rfl⟩,p.isList.push _⟩,fun b hb=>?_,fun i v hv=>zAy rv (by simpa using hv),fun h' tk t' hk=>?_⟩
  ·show b<(s.heap.push _).objs.size
   rw[Heap.size_push];rcases Qd.mp hb with rfl | hb
   ·exact QT _
   ·rcases Qd.mp hb with rfl | hb
    ·exact VF hlt
    ·cases hb
  ·refine⟨.int ns.sum,H,I.kept (t':=tk) fun b o e=>hk b o (fun z=>?_) (Heap.get?_push_of_some _ e),⟨t',?_⟩,q⟩
   ·have z':b=s.heap.objs.size:=by simpa using z
    have l:=Heap.lt_size e;rw[z'] at l;exact Vh _ l
   ·rw[Qk,<-hl,wE,Ve]
 ·obtain⟨its,rv,p,hz⟩:=I.tuple hq
  have p':s.heap.IsTuple a its.toArray:=p;have hlt:a<s.heap.objs.size:=by obtain⟨_,e,_⟩:=p';exact Heap.lt_size e
  have hl:=rv.length;rw[Qe] at hl;refine call_sum_walkG (wpAny_pyIter_tuple p' ?_)
  refine⟨s.heap.objs.size,_,_,_,_,_,fun i=>ns.getD i 0,rfl,Walks.tuple (A:=X.A.in1) hh s.heap.objs.size a (Qt hlt) its.toArray,⟨⟨_,Heap.get?_push_size _ rfl,rfl,rfl⟩,p'.push _⟩,fun b hb=>?_,fun i v hv=>zAy rv (by simpa using hv),fun h' tk t' hk=>?_⟩
  ·show b<(s.heap.push _).objs.size
   rw[Heap.size_push];rcases Qd.mp hb with rfl | hb
   ·exact QT _
   ·rcases Qd.mp hb with rfl | hb
    ·exact VF hlt
    ·cases hb
  ·refine⟨.int ns.sum,H,I.kept (t':=tk) fun b o e=>hk b o (fun z=>?_) (Heap.get?_push_of_some _ e),⟨t',?_⟩,q⟩
   ·have z':b=s.heap.objs.size:=by simpa using z
    have l:=Heap.lt_size e;rw[z'] at l;exact Vh _ l
   ·rw[Qk,<-hl,wE,Ve]
theorem nS{K:Fg_}{H:Hp}:∀ {xs:List V} {ds:List D} {ns:List Int},IsDs K H xs ds->oJ ds=some ns->xs=ns.map V.int
 | _,_,ns,.nil,h=>by cases h;rfl
 | _,_,ns,.cons (d:=d) (ds:=ds) r rs,h=>by
  cases d with
  | int i=>
   rw[oJ] at h
   cases z:oJ ds with
   | none=>rw[z] at h;cases h
   | some ms=>
    rw[z] at h;cases h;rw[r.intI,nS rs z];rfl
  | _=>cases h
theorem tI:zBy X (zSc X.K) zCE:=⟨fun a c z=>(by
  unfold zCE at z;split at z
  ·split at z<;>cases z
  ·split at z<;>cases z
  ·cases z),fun Hi H vs ds d Q s r z q=>by
  unfold zCE at z;split at z
  ·split at z
   ·rename_i ns hns
    cases z;obtain⟨v,rfl,h⟩:=r.one;obtain⟨a,xs,rfl,h1,h2⟩:=h.lstI;have e:=nS h2 hns;subst e;exact⟨a,ns,rfl,.inl (dB s h1),q _ Hi H (Ext.refl s) (.int _)⟩
   ·cases z
  ·split at z
   ·rename_i ns hns
    cases z;obtain⟨v,rfl,h⟩:=r.one;obtain⟨a,xs,rfl,h1,h2⟩:=h.tupI;have e:=nS h2 hns;subst e;exact⟨a,ns,rfl,.inr (cG s h1),q _ Hi H (Ext.refl s) (.int _)⟩
   ·cases z
  ·cases z⟩
theorem iC:bootBuiltins "sum" = some (.builtin "sum"):=by first | rfl | decide +kernel
end
section
variable{prog:Program}{w:World}{A:Around}{E:Value->Shared->Prop}{s:Shared}
end
section
variable{X:Cx}{G:Gx}{es:List Expr}{pos:Pos}
end
theorem ln0{α:Type}{us:List α}(h:us.length=0):us=[]:=XX h
theorem ln1{α:Type}{us:List α}(h:us.length=1):∃ a0:α,us=[a0]:=by
 cases us with
 | nil=>cases h
 | cons a r=>
  cases ln0 (Xq h)
  exact⟨a,rfl⟩
theorem ln2{α:Type}{us:List α}(h:us.length=2):∃ a0 a1:α,us=[a0,a1]:=by
 cases us with
 | nil=>cases h
 | cons a r=>
  obtain⟨a1,rfl⟩:=ln1 (Xq h);exact⟨a,a1,rfl⟩
theorem ln3{α:Type}{us:List α}(h:us.length=3):∃ a0 a1 a2:α,us=[a0,a1,a2]:=by
 cases us with
 | nil=>cases h
 | cons a r=>
  obtain⟨a1,a2,rfl⟩:=ln2 (Xq h);exact⟨a,a1,a2,rfl⟩
theorem ln4{α:Type}{us:List α}(h:us.length=4):∃ a0 a1 a2 a3:α,us=[a0,a1,a2,a3]:=by
 cases us with
 | nil=>cases h
 | cons a r=>
  obtain⟨a1,a2,a3,rfl⟩:=ln3 (Xq h);exact⟨a,a1,a2,a3,rfl⟩
section
variable{X:Cx}{G:Gx}{a b c e:Expr}{pos p2:Pos}{f g h:Ev}{fs:Fv}{lo hi:Option Expr}{l u:Ov}
end
section
variable{X:Cx}{G:Gx}{a b c e:Expr}{pos p2 p:Pos}{f g h:Ev}{fs:Fv}{x:Str}
theorem zEm{bl:List Stmt}:fB X G bl sNo:=fun pins s σ H E I q=>by
 obtain⟨ρ,Hi,R,ou⟩:=q;exact ou.elim
def zLc(T:List (Str×Str)):List (Str×KTD.Dat):=T.map fun q=>(q.1,.flat (.str q.2))
structure IsTab (K:PySem.W.Frag) (mg:Str->Option Value) (x:Str) (T:List (Str×Str)) (a:Addr):Prop where
 mg:mg x=some (.ref a)
 tab:∀ h:Heap,K.In h->KTD.TextTab h a (zLc T)
theorem zHV(k:Str):∀ T:List (Str×Str),KTD.datumAt k (zLc T)=(T.lookup k).map fun y=>.flat (.str y)
 | []=>rfl
 | (x,y)::r=>by
  show(if decide (k=x)=true then some (KTD.Dat.flat (.str y)) else KTD.datumAt k (zLc r))=_
  rw[Vf];by_cases hx:k=x
  ·rw[if_pos (decide_eq_true hx),show(k==x)=true from beq_iff_eq.mpr hx];rfl
  ·rw[if_neg (by simp[hx]),show(k==x)=false from beq_eq_false_iff_ne.mpr hx];exact zHV k r
theorem zIN(k:Str)(T:List (Str×Str)):KTD.inKeys k (zLc T)=(T.lookup k).isSome:=by
 rw[<-KTD.isSome_datumAt,zHV,Option.isSome_map]
theorem zLZ{T:List (Str×Str)}{ad:Addr}(t:IsTab X.K X.mg x T ad)(hg:Gl X x)(hd:(x==("__debug__" : Str))=false:=by decide):PE X (.Name x p) (tC (.ref ad)):=zKb hg t.mg rfl hd
theorem zIu{T:List (Str×Str)}{ad:Addr}(t:IsTab X.K X.mg x T ad):OpR X (compareOp .NotIn) (fun v y H Q=>∃ k,v=.str k/\y=.ref ad/\Q (.bl (!(T.lookup k).isSome)) H):=by
 intro pins s σ H v y u w Q I rx ry h;obtain⟨k,rfl,rfl,q⟩:=h;obtain⟨tk,rfl⟩:=rx;cases ry;refine KTD.notin_text ⟨t.tab s.heap I.kIn,fun _ _ e=>e⟩ ?_
 rw[zIN];exact⟨.bl _,H,I.tok _,rfl,q⟩
theorem zDg{h₀:Heap}{k:Str}{P:Value->Prop}:∀ {T:List (Str×Str)},(∀ z t,T.lookup k=some z->P (.str z t))->KTD.EachL h₀ k P (zLc T)
 | [],_=>trivial
 | [(x,y)],hP=>fun hk t=>hP y t (by rw[Vf,show(k==x)=true from beq_iff_eq.mpr hk])
 | (x,y)::q::r,hP=>by
  show if decide (k=x)=true then KTD.Opened h₀ P (.flat (.str y)) else KTD.EachL h₀ k P (zLc (q::r))
  by_cases hk:k=x
  ·rw[if_pos (decide_eq_true hk)]
   exact fun t=>hP y t (by rw[Vf,show(k==x)=true from beq_iff_eq.mpr hk])
  ·rw[if_neg (by simp[hk])]
   exact zDg fun z t hz=>hP z t (by rw[Vf,show(k==x)=false from beq_eq_false_iff_ne.mpr hk];exact hz)
theorem zHU(T:List (Str×Str)):((zLc T).all fun q=>KTD.plain q.2)=true:=by
 unfold zLc;rw[List.all_map];exact Vl.mpr fun _ _=>rfl
theorem zQC{T:List (Str×Str)}{ad:Addr}(t:IsTab X.K X.mg x T ad):IxR X (fun v y H Q=>∃ k z,v=.ref ad/\y=.str k/\T.lookup k=some z/\Q (.str z) H):=by
 intro value slice pins s σ H v y u w Q I rx ry h hs;obtain⟨k,z,rfl,rfl,hk,q⟩:=h;cases rx;obtain⟨tk,rfl⟩:=ry;refine KTD.item_textA ⟨t.tab s.heap I.kIn,fun _ _ e=>e⟩ (zHU T) (by rw[zIN,hk];rfl) ?_ hs
 refine zDg fun z' t' hz=>?_
 rw[hk] at hz;cases hz;exact⟨.str _,H,I.tok _,⟨_,rfl⟩,q⟩
theorem unT{o:D->Res D}{r:R2}{y:V}(hr:∀ (Hi H:Hp) (v:V) (d:D) (Q:VK),IsD X.K Hi v d->Same Hi H->(∃ d',o d=.ok d'/\(∀ w Hi' H',Ext Hi H Hi' H'->IsD X.K Hi' w d'->Q w H'))->r v y H Q)
  (he:∀ d c,o d≠.err c):∀ σ H Q,tD X G (eUn o f) σ H Q->tOp r (tD X G f) (tC y) σ H Q:=fun σ H Q q=>by
 obtain⟨ρ,Hi,R,ou⟩:=q;refine zDT R ou fun v d Hi1 H1 e1 R1 r1 o1=>?_
 cases z:o d with
 | no=>rw[z] at o1;exact o1.elim
 | err c=>exact absurd z (he d c)
 | ok d'=>rw[z] at o1;exact hr Hi1 H1 v d Q r1 R1.s ⟨d',z,fun w Hi' H' e1 r1=>o1 Hi' H' e1 w r1⟩
theorem zQh{T:List (Str×Str)}{ad:Addr}:∀ σ H Q,tD X G (eUn (sO T) f) σ H Q->tOp (fun v y H Q=>∃ k,v=.str k/\y=.ref ad/\Q (.bl (!(T.lookup k).isSome)) H) (tD X G f) (tC (.ref ad)) σ H Q:=
 unT (fun Hi H v d Q r s h=>by
  obtain⟨d',z,q⟩:=h;unfold sO at z;split at z
  ·cases z;exact⟨_,r.strI,rfl,q _ Hi H (Ext.refl s) (.bl _)⟩
  ·cases z) fun d c z=>by unfold sO at z;split at z<;>cases z
theorem zQH{op:CmpOp}{o:D->Res D}{r:R2}{y:V}(hp:PT X (.Compare a [op] [b] pos) (zPI (tOp r (tD X G f) (tC y))))(hu:∀ σ H Q,tD X G (eUn o f) σ H Q->tOp r (tD X G f) (tC y) σ H Q):PTd X G (.Compare a [op] [b] pos) (dD (eUn o f)):=
 PT.wk hp fun σ H Q q=>by
  obtain⟨ρ,Hi,R,ou⟩:=q;refine hu σ H _ ⟨ρ,Hi,R,ou.bind.imp fun d Hi' H' e o v r=>?_⟩
  cases d with
  | bl c=>rw[r.blI];exact⟨c,rfl,o.here e.s⟩
  | _=>exact o.elim
theorem zLw{T:List (Str×Str)}{ad:Addr}(t:IsTab X.K X.mg x T ad)(hg:Gl X x)(ha:PEd X G a f)(hm:behindInMarks .NotIn (.Name x p)=false)(hd:(x==("__debug__" : Str))=false:=by decide):PTd X G (.Compare a [.NotIn] [.Name x p] pos) (dD (eUn (sO T) f)):=
 zQH (zJp (zIu t) ha (zLZ t hg hd) hm) zQh
theorem zMe{T:List (Str×Str)}{ad:Addr}(t:IsTab X.K X.mg x T ad)(hg:Gl X x)(hb:PEd X G b g)(hs:zEC b)(hd:(x==("__debug__" : Str))=false:=by decide):PEd X G (.Subscript (.Name x p) b pos) (eUn (vD T) g):=
 PE.wk (zHb (zQC t) (zLZ t hg hd) hb hs) fun σ H Q q=>by
  obtain⟨ρ,Hi,R,ou⟩:=q;refine zDT R ou fun v d Hi1 H1 e1 R1 r1 o1=>?_
  cases d with
  | str k=>
   have o2:Out G Hi1 H1 (zOO (T.lookup k)) _:=o1
   cases z:T.lookup k with
   | none=>rw[z] at o2;exact o2.elim
   | some y=>rw[z] at o2;exact⟨k,y,rfl,r1.strI,z,o2.here R1.s _ (.str _)⟩
  | _=>exact o1.elim
end
section
variable{prog:Program}{w:World}{A:Around}{R:Result->Shared->Prop}{I:Addr}{fp wr:List Addr}{n:Nat}{P:Nat->Value->Prop}{St:Nat->Heap->Prop}{kw:List (Str×Value)}
end
section
variable{X:Cx}{G:Gx}{a c:Expr}{pos p kp:Pos}{f g:Ev}
theorem zHG(num:Nat->Int):∀ k,num (argBest (fun i j=>decide (num i > num j)) k)=zBx (num 0) ((List.range k).map fun i=>num (i+1))
 | 0=>rfl
 | k+1=>by
  rw[X1,QH]
  have app:∀(l:List Int)(a b:Int),zBx a (l++[b])=if b > zBx a l then b else zBx a l:=by
   intro l
   induction l with
   | nil=>intro a b;rfl
   | cons x r ih=>intro a b;rw[Xr,zBx,ih,zBx]
  rw[List.map_singleton,app,<-zHG num k];show num (if decide (num (k+1) > num (argBest _ k))=true then k+1 else argBest _ k)=_
  by_cases h:num (k+1) > num (argBest (fun i j=>decide (num i > num j)) k)
  ·rw[if_pos (decide_eq_true h),if_pos h]
  ·rw[if_neg (by simp[h]),if_neg h]
theorem zEI(m:Int)(ns:List Int):(m::ns).getD (argBest (fun i j=>decide ((m::ns).getD i 0 > (m::ns).getD j 0)) ns.length) 0=zBx m ns:=by
 rw[zHG (fun i=>(m::ns).getD i 0) ns.length];show zBx m _=_
 congr 1
 refine V5 fun i=>?_
 rw[Qr];by_cases h:i<ns.length
 ·rw[Vd h,Ql h]
  show some ((m::ns).getD (i+1) 0)=_
  rw[List.getD_cons_succ,Qx,Ql h];rfl
 ·rw[QA (by rw[Qy];omega),QA (by omega)];rfl
def zPn(K:PySem.W.Frag):List V->Hp->VK->Prop:=fun xs H Q=>∃(a:Addr)(m:Int)(ns:List Int),xs=[.ref a]/\SqL K H a ((m::ns).map V.int)/\Q (.int (zBx m ns)) H
theorem zDc(hc:X.calm=true):tP X (.builtin "max") (zPn X.K):=by
 intro pins s σ H xs us Q I r h;obtain⟨a,m,ns,rfl,hq,q⟩:=h;obtain⟨u,rfl,ru⟩:=zBj r;cases ru;have hh:=I.ok.hd hc;obtain⟨its,rv,p,hz⟩:=I.list hq;have hlt:a<s.heap.objs.size:=by obtain⟨_,e,_⟩:=p.isList;exact Heap.lt_size e
 have hl:=rv.length;rw[Qe,Qn] at hl;refine call_max_walk (wpAny_pyIter_list p.isList ?_)
 refine⟨s.heap.objs.size,_,_,_,_,_,fun i j=>decide ((m::ns).getD i 0 > (m::ns).getD j 0),rfl,Walks.list (A:=X.A.in1) hh s.heap.objs.size a (Qt hlt) its.toArray,⟨⟨_,Heap.get?_push_size _ rfl,rfl,rfl⟩,p.isList.push _⟩,fun b hb=>?_,by rw[Qk];omega,CmpOf.ints_gt _ fun i v hv=>zAy rv (by simpa using hv),fun v h' tk hv hk=>?_⟩
 ·show b<(s.heap.push _).objs.size
  rw[Heap.size_push];rcases Qd.mp hb with rfl | hb
  ·exact QT _
  ·rcases Qd.mp hb with rfl | hb
   ·exact VF hlt
   ·cases hb
 ·obtain⟨t,rfl⟩:=zAy rv (i:=argBest (fun i j=>decide ((m::ns).getD i 0 > (m::ns).getD j 0)) (its.toArray.size-1)) (by simpa using hv)
  refine⟨.int (zBx m ns),H,I.kept (t':=tk) fun b o e=>hk b o (fun z=>?_) (Heap.get?_push_of_some _ e),⟨t,?_⟩,q⟩
  ·have z':b=s.heap.objs.size:=by simpa using z
   have l:=Heap.lt_size e;rw[z'] at l;exact Vh _ l
  ·rw[Qk,<-hl,Nat.add_sub_cancel,zEI]
theorem zHP:zBy X (zPn X.K) zDa:=⟨fun a c z=>(by
  unfold zDa at z;split at z
  ·split at z<;>cases z
  ·cases z),fun Hi H vs ds d Q s r z q=>by
  unfold zDa at z;split at z
  ·split at z
   ·rename_i m ns hns
    cases z;obtain⟨v,rfl,h⟩:=r.one;obtain⟨a,xs,rfl,h1,h2⟩:=h.lstI;have e:=nS h2 hns;subst e;exact⟨a,m,ns,rfl,dB s h1,q _ Hi H (Ext.refl s) (.int _)⟩
   ·cases z
  ·cases z⟩
end
section
variable{X:Cx}{G:Gx}{e:Expr}{pos:Pos}{f:Ev}
end
end L3
namespace L2
open PySem PySem.Spec PyProof.Rows
section
variable{κ:Type}[DecidableEq κ]
end
abbrev KT(H:Hp):List (List Key×V)->List (List Key×Addr×Value)->Prop:=Paired fun p q=>p.1=q.1/\H q.2.1=some (.tup (p.1.map kV))/\dI p.2 q.2.2
section
variable{P:Program}{w:World}{H:Hp}{h:Heap}{a:Addr}
end
section
variable{X:Cx}{pins:List (Addr×Obj)}{σ:St}{H:Hp}{s:Shared}{a:Addr}{y v:V}{u r:Value}{o:Option V}{A:Around}{E:Value->Shared->Prop}
end
section
variable{X:Cx}{pins:List (Addr×Obj)}{σ:St}{H:Hp}{s:Shared}{a:Addr}{kvs:List (Key×V)}{k:Key}{u:Value}{A:Around}{E:Value->Shared->Prop}
end
section
variable{X:Cx}{o i e value:Expr}{pos pos' tpos:Pos}{td ty tv:TE}
end
section
variable{X:Cx}{pos:Pos}
end
end L2
namespace L3
open PySem PySem.Spec PyProof.Rows L2
unseal PEd PEf PTd PWd PAd PSd fB POd PGd jQ PId PSx nZ PTs PCd PCf
section
variable{X:Cx}{G:Gx}{a b c e:Expr}{pos p2 p:Pos}{f g h:Ev}{fs:Fv}{x:Str}
end
end L3
namespace L3
open PySem PySem.Spec PyProof.Rows L2
def itN(k:Bool):String:=if k then "list_iterator" else "tuple_iterator"
def zFP(k:Bool)(h:Heap)(it l:Addr)(i:Nat):Prop:=if k then h.IsListIter it l i else h.IsTupleIter it l i
def yF(k:Bool)(h:Heap)(l:Addr)(xs:Array Value):Prop:=if k then h.IsList l xs else h.IsTuple l xs
theorem zFP.get{k:Bool}{h:Heap}{it l:Addr}{i:Nat}(x:zFP k h it l i):∃ o,h.get? it=some o/\o.cls=.type (itN k)/\o.data=.fields #[.ref l,.int i 0]:=by
 cases k<;>(obtain⟨o,a,b,c⟩:=x;exact⟨o,a,b,c⟩)
theorem zFP.mk{k:Bool}{h:Heap}{it l:Addr}{i:Nat}{o:Obj}(a:h.get? it=some o)(b:o.cls=.type (itN k))(c:o.data=.fields #[.ref l,.int i 0]):zFP k h it l i:=by
 cases k<;>exact⟨o,a,b,c⟩
theorem zFP.go{k:Bool}{h h':Heap}{it l:Addr}{i:Nat}(x:zFP k h it l i)(g:∀ o,h.get? it=some o->h'.get? it=some o):zFP k h' it l i:=by
 obtain⟨o,a,b,c⟩:=x.get;exact .mk (g o a) b c
theorem yF.go{k:Bool}{h h':Heap}{l:Addr}{xs:Array Value}(x:yF k h l xs)(g:∀ o,h.get? l=some o->h'.get? l=some o):yF k h' l xs:=by
 cases k<;>(obtain⟨o,a,b⟩:=x;exact⟨o,g o a,b⟩)
section
variable{prog:Program}{w:World}{A:Around}{E:Value->Shared->Prop}{s:Shared}
theorem zJt{k:Bool}{l:Addr}{xs:Array Value}{Q:Value->Shared->Prop}(hl:yF k s.heap l xs)(hQ:Q (.ref s.heap.objs.size) { s with heap:=s.heap.push { cls:=.type (itN k),data:=.fields #[.ref l,.int 0 0] } }):
  wpAny (model prog w) A (pyIter (.ref l)) Q E s:=by
 cases k
 ·exact wpAny_pyIter_tuple hl hQ
 ·exact wpAny_pyIter_list hl hQ
theorem nxT{it t:Addr}{i:Nat}{items:Array Value}{Q:Value->Shared->Prop}(hh:A.handled=none∨(items[i]?).isSome=true)(x:s.heap.IsTupleIter it t i)(y:s.heap.IsTuple t items)
  (go:∀ v,items[i]?=some v->∀ h2,h2.IsTupleIter it t (i+1)->Heap.SameBut it s.heap h2->Q v { s with heap:=h2 })
  (stop:items[i]?=none->∀ h2 e,Heap.ExtBut it s.heap h2->(∃ ob,h2.get? e=some ob/\ob.cls=.type "StopIteration")->E (.ref e) { s with heap:=h2 }):wpAny (model prog w) A (Builtin.SmallTypes.nextOf (.ref it)) Q E s:=by
 obtain⟨oi,ei,ci,di⟩:=id x;obtain⟨ot,et,_,nt,dt⟩:=y;have nn:¬ ((Value.ref t==Value.none)=true):=Xc;unfold Builtin.SmallTypes.nextOf;refine wpAny_bind (wpAny_callSpecial?_slot (name:=Str.ofString "__next__") x.typeIs F.slot_tuple_iterator_next (wpAny_call_entry F.slot_tuple_iterator_next x.typeIs F.entry_tuple_iterator_next (show wpAny _ _ (field _ 0 >>= _) _ _ s from wpAny_bind (wpAny_field ei di (x:=.ref t) rfl ?_)) (F.args_tuple_iterator_next_1 _)))
 show wpAny _ _ (ite ((Value.ref t==Value.none)=true) _ _) _ _ s
 rw[if_neg nn];refine show wpAny _ _ (field _ 1 >>= _) _ _ s from wpAny_bind (wpAny_field ei di (x:=.int i 0) rfl (show wpAny _ _ (seqItems? _ >>= _) _ _ s from wpAny_bind (wpAny_seqItems et dt ?_)))
 have fr:∀ g:Array Value->Array Value,Heap.get? (s.heap.update it (Obj.mapFields g)) it=some (Obj.mapFields g oi):=fun g=>Heap.get?_update_self _ ei (Obj.isFreed_of_fields (Obj.data_mapFields di g))
 cases q:items[i]? with
 | some v=>
  simp only[Q2,q];refine wpAny_bind (wpAny_setField ei di (by simp) (wpAny_pure ⟨v,rfl,wpAny_pure (go v q _ ⟨_,fr _,(Obj.cls_mapFields ..).trans ci,?_⟩ (Heap.SameBut.update ..))⟩))
  rw[Obj.data_mapFields di];simp[rawInt]
 | none=>
  have hh:A.handled=none:=hh.elim id fun z=>by rw[q] at z;cases z
  simp only[Q2,q];refine wpAny_bind (wpAny_rule (wpAny_bind (wpAny_setField ei di (by simp) (show wpAny _ _ (newExc _ [] >>= _) _ _ _ from wpAny_bind ?_))))
  simp only[newExc,newTuple];refine wpAny_bind (wpAny_newObj_type (wpAny_bind (m:=firstArgMember _ _) (wpAny_of_eq (a:=Value.none) (by first | rfl | (simp only[firstArgMember];rfl)) (wpAny_newObj_type ?_ (by size_fits)))) (by size_fits))
  simp only[raiseNew];refine wpAny_bind (wpAny_handled ?_)
  rw[show A.in1.handled=none from hh];exact wpAny_bind (wpAny_pure (wpAny_throw (stop q _ _ (((Heap.SameBut.update ..).extBut.push _).push _) ⟨_,Heap.get?_push_size _ rfl,rfl⟩)))
theorem zJC{k:Bool}{it t:Addr}{i:Nat}{items:Array Value}{x:Value}{Q:Value->Shared->Prop}(hit:zFP k s.heap it t i)(ht:yF k s.heap t items)(hx:items[i]?=some x)
  (hQ:∀ h',zFP k h' it t (i+1)->Heap.SameBut it s.heap h'->Q x { s with heap:=h' }):wpAny (model prog w) A (Builtin.SmallTypes.nextOf (.ref it)) Q E s:=by
 cases k
 ·exact nxT (.inr (by rw[hx];rfl)) hit ht (fun v q h2 g1 g2=>by rw[hx] at q;cases q;exact hQ h2 g1 g2) fun q=>by rw[hx] at q;cases q
 ·exact wpAny_nextOf_list_item hit ht hx hQ
theorem zLA{k:Bool}{it t:Addr}{i:Nat}{items:Array Value}{Q:Value->Shared->Prop}(hh:A.handled=none)(hit:zFP k s.heap it t i)(ht:yF k s.heap t items)(hx:items[i]?=none)
  (hE:∀ h' e,Heap.ExtBut it s.heap h'->(∃ o,h'.get? e=some o/\o.cls=.type "StopIteration")->E (.ref e) { s with heap:=h' }):wpAny (model prog w) A (Builtin.SmallTypes.nextOf (.ref it)) Q E s:=by
 cases k
 ·exact nxT (.inl hh) hit ht (fun v q=>by rw[hx] at q;cases q) fun _=>hE
 ·exact wpAny_nextOf_list_end hh hit ht hx hE
def yS(f0:Value)(k1 k2:Bool)(l1 l2 n:Addr)(j1 j2:Nat)(h:Heap):Prop:=
 IsZip h (n+4) (n+2) (n+3) f0/\IsPair h (n+2) (.ref n) (.ref (n+1))/\(∃ a b,IsPair h (n+3) a b)/\zFP k1 h n l1 j1/\zFP k2 h (n+1) l2 j2
def oU(n:Addr)(h h2:Heap):Prop:=∀ c o,c≠n+4->c≠n+3->c≠n->c≠n+1->h.get? c=some o->h2.get? c=some o
theorem oU.then{n:Addr}{h h1 h2:Heap}(a:oU n h h1)(b:oU n h1 h2):oU n h h2:=fun c o c1 c2 c3 c4 e=>b c o c1 c2 c3 c4 (a c o c1 c2 c3 c4 e)
theorem oU.eb{n a:Addr}{h h2:Heap}(k:Heap.ExtBut a h h2)(m:a=n+4∨a=n+3∨a=n∨a=n+1):oU n h h2:=fun c o c1 c2 c3 c4 e=>k c o (fun z=>by subst z;rcases m with m | m | m | m<;>contradiction) e
theorem oU.sq{k:Bool}{n l:Addr}{h h2:Heap}{xs:Array Value}(a:oU n h h2)(hl:l<n)(x:yF k h l xs):yF k h2 l xs:=
 x.go fun o e=>a l o (Qt (Nat.lt_add_right 4 hl)) (Qt (Nat.lt_add_right 3 hl)) (Qt hl) (Qt (VF hl)) e
theorem zKJ(n:Addr):n+3≠n+4/\n+2≠n+4/\n≠n+4/\n+1≠n+4/\n+2≠n+3/\n≠n+3/\n+1≠n+3/\n+2≠n/\n+1≠n/\n+2≠n+1:=by
 refine⟨?_,?_,?_,?_,?_,?_,?_,?_,?_,?_⟩<;>(intro z;have z':(_:Nat)=_:=z;omega)
theorem yS.fld{f0:Value}{k1 k2:Bool}{l1 l2 n:Addr}{j1 j2:Nat}{h h2:Heap}(g:yS f0 k1 k2 l1 l2 n j1 j2 h){f1:Value}(z:IsZip h2 (n+4) (n+2) (n+3) f1)(s:Heap.ExtBut (n+4) h h2):yS f1 k1 k2 l1 l2 n j1 j2 h2:=by
 obtain⟨_,g2,⟨a,b,g3⟩,g4,g5⟩:=g;obtain⟨e1,e2,e3,e4,_⟩:=zKJ n;exact⟨z,s _ _ e2 g2,⟨a,b,s _ _ e1 g3⟩,g4.go fun o e=>s _ o e3 e,g5.go fun o e=>s _ o e4 e⟩
theorem yS.it1{f0:Value}{k1 k2:Bool}{l1 l2 n:Addr}{j1 j2 m:Nat}{h h2:Heap}(g:yS f0 k1 k2 l1 l2 n j1 j2 h)(z:zFP k1 h2 n l1 m)(s:Heap.ExtBut n h h2):yS f0 k1 k2 l1 l2 n m j2 h2:=by
 obtain⟨g1,g2,⟨a,b,g3⟩,_,g5⟩:=g;obtain⟨e1,e2,e3,e4,e5,e6,e7,e8,e9,_⟩:=zKJ n;exact⟨s _ _ e3.symm g1,s _ _ e8 g2,⟨a,b,s _ _ e6.symm g3⟩,z,g5.go fun o e=>s _ o e9 e⟩
theorem yS.it2{f0:Value}{k1 k2:Bool}{l1 l2 n:Addr}{j1 j2 m:Nat}{h h2:Heap}(g:yS f0 k1 k2 l1 l2 n j1 j2 h)(z:zFP k2 h2 (n+1) l2 m)(s:Heap.ExtBut (n+1) h h2):yS f0 k1 k2 l1 l2 n j1 m h2:=by
 obtain⟨g1,g2,⟨a,b,g3⟩,g4,_⟩:=g;obtain⟨e1,e2,e3,e4,e5,e6,e7,e8,e9,e10⟩:=zKJ n;exact⟨s _ _ e4.symm g1,s _ _ e10 g2,⟨a,b,s _ _ e7.symm g3⟩,g4.go fun o e=>s _ o e9.symm e,z⟩
theorem yS.out{f0 a b:Value}{k1 k2:Bool}{l1 l2 n:Addr}{j1 j2:Nat}{h h2:Heap}(g:yS f0 k1 k2 l1 l2 n j1 j2 h)(z:IsPair h2 (n+3) a b)(s:Heap.ExtBut (n+3) h h2):yS f0 k1 k2 l1 l2 n j1 j2 h2:=by
 obtain⟨g1,g2,_,g4,g5⟩:=g;obtain⟨e1,e2,e3,e4,e5,e6,e7,_⟩:=zKJ n;exact⟨s _ _ e1.symm g1,s _ _ e5 g2,⟨a,b,z⟩,g4.go fun o e=>s _ o e6 e,g5.go fun o e=>s _ o e7 e⟩
theorem zSV{k1 k2:Bool}{n l1 l2:Addr}{j:Nat}{xs ys:Array Value}{Q:PySem.Fin->Shared->Prop}(hh:A.handled=none)(b1:l1<n)(b2:l2<n)(g:yS .none k1 k2 l1 l2 n j j s.heap)(d1:yF k1 s.heap l1 xs)(d2:yF k2 s.heap l2 ys)
  (go:∀ x y,xs[j]?=some x->ys[j]?=some y->∀ h2,yS (rawInt s.heap.objs.size) k1 k2 l1 l2 n (j+1) (j+1) h2->IsPair h2 s.heap.objs.size x y->oU n s.heap h2->Q (.done (.ret (.ref s.heap.objs.size))) { s with heap:=h2 })
  (stop:xs[j]?=none∨ys[j]?=none->∀ h2 e,oU n s.heap h2->(∃ o,h2.get? e=some o/\o.cls=.type "StopIteration")->E (.ref e) { s with heap:=h2 }):
  wpAny (model prog w) A (Builtin.«zip.__next__» ⟨[.ref (n+4)],[]⟩) Q E s:=by
 have stopZ:∀ {h1:Heap} {e:Addr} {v:Value} {k:Nat} {R:Unit->Shared->Prop},(xs[j]?=none∨ys[j]?=none)->oU n s.heap h1->IsZip h1 (n+4) (n+2) (n+3) .ellipsis->(∃ o,h1.get? e=some o/\o.cls=.type "StopIteration")->k<5->
   (∀ h3,oU n s.heap h3->(∃ o,h3.get? e=some o/\o.cls=.type "StopIteration")->R () { s with heap:=h3 })->wpAny (model prog w) A (setField (.ref (n+4)) k v) R E { s with heap:=h1 }:=by
  intro h1 e v k R q kz z he hk fin;obtain⟨oe,e1,e2⟩:=he;have nz:e≠n+4:=fun y=>by subst y;rw[z] at e1;cases e1;simp at e2
  exact wpAny_setField_rec z (by simpa using hk) fun h3 _ s3=>fin h3 (kz.then (.eb s3.extBut (.inl rfl))) ⟨oe,s3.extBut _ _ nz e1,e2⟩
 obtain⟨z0,t0,⟨a,b,p0⟩,_⟩:=id g;refine show wpAny _ _ (field _ 2 >>= _) _ _ s from wpAny_bind (wpAny_field z0 rfl (x:=.bool false) rfl (show wpAny _ _ (field _ 3 >>= _) _ _ s from wpAny_bind (wpAny_field z0 rfl (x:=.ref (n+2)) rfl (wpAny_bind (wpAny_seqItems t0 rfl (wpAny_bind ?_))))))
 unfold Builtin.SmallTypes.ownedTupleIsFree;refine wpAny_bind (wpAny_field z0 rfl (x:=.none) rfl (wpAny_pure ?_))
 simp only[if_true];refine wpAny_bind (wpAny_rule (wpAny_bind (wpAny_field z0 rfl (x:=.ref (n+3)) rfl (wpAny_bind (wpAny_setField_rec z0 (by simp) fun h1 z1 s1=>wpAny_bind ?_)))))
 have g1:yS .ellipsis k1 k2 l1 l2 n j j h1:=g.fld z1 s1.extBut;have k1':oU n s.heap h1:=.eb s1.extBut (.inl rfl);simp only[List.zipIdx_cons,List.zipIdx_nil,List.forIn_cons,List.forIn_nil];refine wpAny_bind (wpAny_bind (wpAny_onRaise (show wpAny _ _ (Builtin.SmallTypes.nextOf _ >>= _) _ _ _ from wpAny_bind ?_)))
 cases q1:xs[j]? with
 | none=>
  refine zLA (s:={ s with heap:=h1 }) hh g1.2.2.2.1 (k1'.sq b1 d1) q1 fun h2 e x2 he=>stopZ (.inl q1) (k1'.then (.eb x2 (.inr (.inr (.inl rfl))))) (x2 _ _ (zKJ n).2.2.1.symm g1.1) he (by decide) fun h3=>stop (.inl q1) h3 e
 | some x=>
  refine zJC (s:={ s with heap:=h1 }) g1.2.2.2.1 (k1'.sq b1 d1) q1 fun h2 i2 s2=>wpAny_pure ?_
  have g2:=g1.it1 i2 s2.extBut;have k2':=k1'.then (.eb s2.extBut (.inr (.inr (.inl rfl))));have p2:IsPair h2 (n+3) a b:=s2.extBut _ _ (zKJ n).2.2.2.2.2.1.symm (s1.extBut _ _ (zKJ n).1 p0);refine wpAny_bind (wpAny_seqItems (s:={ s with heap:=h2 }) p2 rfl (wpAny_bind (wpAny_updateSeq_pair p2 fun h3 p3 s3=>wpAny_bind (wpAny_letGo (wpAny_pure ?_)))))
  have g3:=g2.out p3 s3.extBut;have k3':=k2'.then (.eb s3.extBut (.inr (.inl rfl)));refine wpAny_bind (wpAny_bind (wpAny_onRaise (show wpAny _ _ (Builtin.SmallTypes.nextOf _ >>= _) _ _ _ from wpAny_bind ?_)))
  cases q2:ys[j]? with
  | none=>
   refine zLA (s:={ s with heap:=h3 }) hh g3.2.2.2.2 (k3'.sq b2 d2) q2 fun h4 e x4 he=>stopZ (.inr q2) (k3'.then (.eb x4 (.inr (.inr (.inr rfl))))) (x4 _ _ (zKJ n).2.2.2.1.symm g3.1) he (by decide) fun h5=>stop (.inr q2) h5 e
  | some y=>
   refine zJC (s:={ s with heap:=h3 }) g3.2.2.2.2 (k3'.sq b2 d2) q2 fun h4 i4 s4=>wpAny_pure ?_
   have g4:=g3.it2 i4 s4.extBut;have p4:IsPair h4 (n+3) x b:=s4.extBut _ _ (zKJ n).2.2.2.2.2.2.1.symm p3;refine wpAny_bind (wpAny_seqItems (s:={ s with heap:=h4 }) p4 rfl (wpAny_bind (wpAny_updateSeq_pair p4 fun h5 p5 s5=>wpAny_bind (wpAny_letGo (wpAny_pure (wpAny_pure ?_))))))
   have p5:IsPair h5 (n+3) x y:=p5;have g5:=g4.out p5 s5.extBut;have k5':=(k3'.then (.eb s4.extBut (.inr (.inr (.inr rfl))))).then (.eb s5.extBut (.inr (.inl rfl)));have sz:h5.objs.size=s.heap.objs.size:=s5.1.trans (s4.1.trans (s3.1.trans (s2.1.trans s1.1)));refine wpAny_bind (wpAny_seqItems (s:={ s with heap:=h5 }) p5 rfl (wpAny_bind (wpAny_newTuple (show wpAny _ _ (Builtin.SmallTypes.ownedTupleHandOut _ (.ref h5.objs.size) >>= _) _ _ _ from wpAny_bind ?_))))
   unfold Builtin.SmallTypes.ownedTupleHandOut;refine wpAny_bind (wpAny_setField_rec (Heap.get?_push_of_some _ g5.1) (by simp) fun h7 z7 s7=>wpAny_setField_rec z7 (by simp) fun h8 z8 s8=>wpAny_pure ?_)
   have nz:h5.objs.size≠n+4:=Xk (Heap.lt_size g5.1);have x8:Heap.ExtBut (n+4) h5 h8:=fun c o c1 e=>s8.extBut _ _ c1 (s7.extBut _ _ c1 (Heap.get?_push_of_some _ e))
   have g8:yS (rawInt h5.objs.size) k1 k2 l1 l2 n (j+1) (j+1) h8:=g5.fld z8 x8;have t8:IsPair h8 h5.objs.size x y:=s8.extBut _ _ nz (s7.extBut _ _ nz (Heap.get?_push_size _ rfl));rw[sz] at g8 t8;show Q (.done (.ret (.ref h5.objs.size))) _
   rw[sz];exact go x y q1 q2 h8 g8 t8 (k5'.then (.eb x8 (.inl rfl)))
theorem zSt{k1 k2:Bool}{n l1 l2:Addr}{j:Nat}{xs ys:Array Value}{Q:Option Value->Shared->Prop}(hh:A.handled=none)(b1:l1<n)(b2:l2<n)(g:yS .none k1 k2 l1 l2 n j j s.heap)(d1:yF k1 s.heap l1 xs)(d2:yF k2 s.heap l2 ys)
  (go:∀ x y,xs[j]?=some x->ys[j]?=some y->∀ h2,yS (rawInt s.heap.objs.size) k1 k2 l1 l2 n (j+1) (j+1) h2->IsPair h2 s.heap.objs.size x y->oU n s.heap h2->Q (some (.ref s.heap.objs.size)) { s with heap:=h2 })
  (stop:xs[j]?=none∨ys[j]?=none->∀ h2,oU n s.heap h2->Q none { s with heap:=h2 }):wpAny (model prog w) A (pyNext (.ref (n+4))) Q E s:=by
 have ty:s.TypeIs (.ref (n+4)) "zip" := ⟨_,g.1,rfl⟩;unfold pyNext
 refine wpAny_bind (wpAny_attempt (wpAny_callSpecial?_slot (name:=Str.ofString "__next__") ty F.slot_zip_next (wpAny_call_entry F.slot_zip_next ty F.entry_zip_next
  (zSV hh b1 b2 g d1 d2 (fun x y q1 q2 h2 a1 a2 a3=>⟨_,rfl,wpAny_pure (go x y q1 q2 h2 a1 a2 a3)⟩) fun q h2 e k he=>?_) (F.args_zip_next_1 _))))
 obtain⟨o,eo,co⟩:=he;exact wpAny_bind (wpAny_isInstance (T := "StopIteration") (b:=true) ⟨o,eo,co⟩ isSubtype_stop (wpAny_pure (stop q h2 k)))
end
abbrev zO(k:Bool)(l:Addr):Obj:={ cls:=.type (itN k),data:=.fields #[.ref l,.int 0 0] }
abbrev zH2(k1 k2:Bool)(h:Heap)(l1 l2:Addr):Heap:=(h.push (zO k1 l1)).push (zO k2 l2)
abbrev zH3(k1 k2:Bool)(h:Heap)(l1 l2:Addr):Heap:=(zH2 k1 k2 h l1 l2).push { cls:=.type "tuple", data:=.seq #[.ref h.objs.size,.ref (h.push (zO k1 l1)).objs.size] }
abbrev zH4(k1 k2:Bool)(h:Heap)(l1 l2:Addr):Heap:=(zH3 k1 k2 h l1 l2).push { cls:=.type "tuple", data:=.seq #[.none,.none] }
abbrev zH5(k1 k2:Bool)(h:Heap)(l1 l2:Addr):Heap:=(zH4 k1 k2 h l1 l2).push { cls:=.type "zip", data:=.fields #[.none,.bool false,.bool false,.ref (zH2 k1 k2 h l1 l2).objs.size,.ref (zH3 k1 k2 h l1 l2).objs.size] }
theorem zKT(k1 k2:Bool)(l1 l2:Addr)(xs ys:Array Value):Meets (Builtin.«zip.__new__» ⟨[.type "zip", .ref l1,.ref l2],[]⟩) (fun _ R s=>yF k1 s.heap l1 xs/\yF k2 s.heap l2 ys/\
  R (.ok (.ret (.ref (zH4 k1 k2 s.heap l1 l2).objs.size))) { s with heap:=zH5 k1 k2 s.heap l1 l2 }):=
 .of_wp fun prog w A R s h=>by
  obtain⟨hp,g,d,tk,os⟩:=s;obtain⟨hl1,hl2,h⟩:=h;have hsub:=sub_zip;have d1:yF k1 (Shared.heap ⟨hp,g,d,tk,os⟩) l1 xs:=hl1;have d2:yF k2 (Shared.heap ⟨hp.push { cls:=.type (itN k1),data:=.fields #[.ref l1,.int 0 0] },g,d,tk,os⟩) l2 ys:=hl2.go fun o e=>Heap.get?_push_of_some _ e
  wp_walk using zJt d1,zJt d2
  exact⟨_,rfl,h⟩
section
variable{prog:Program}{w:World}{A:Around}{E:Value->Shared->Prop}{s:Shared}
theorem zLn{k1 k2:Bool}{l1 l2:Addr}{xs ys:Array Value}{Q:Value->Shared->Prop}(d1:yF k1 s.heap l1 xs)(d2:yF k2 s.heap l2 ys)
  (h:∀ h2,yS .none k1 k2 l1 l2 s.heap.objs.size 0 0 h2->(∀ c o,s.heap.get? c=some o->h2.get? c=some o)->Q (.ref (s.heap.objs.size+4)) { s with heap:=h2 }):wpAny (model prog w) A (call (.type "zip") [.ref l1,.ref l2]) Q E s:=by
 refine callType_new F.called_zip (by decide) (F.typeCall_zip_2 _ _) (F.newCall_zip_2 _ _) (fun obj=>F.args_object_init_3 obj _ _) F.entry_zip_new (zKT k1 k2 l1 l2 xs ys) ⟨d1,d2,?_⟩
 have up:∀ {h:Heap} {a:Addr} {o ob:Obj},h.get? a=some o->(h.push ob).get? a=some o:=fun e=>Heap.get?_push_of_some _ e
 have m1:(s.heap.push (zO k1 l1)).objs.size=s.heap.objs.size+1:=Heap.size_push ..;have m2:(zH2 k1 k2 s.heap l1 l2).objs.size=s.heap.objs.size+2:=(Heap.size_push ..).trans (congrArg (·+1) m1);have m3:(zH3 k1 k2 s.heap l1 l2).objs.size=s.heap.objs.size+3:=(Heap.size_push ..).trans (congrArg (·+1) m2);have m4:(zH4 k1 k2 s.heap l1 l2).objs.size=s.heap.objs.size+4:=(Heap.size_push ..).trans (congrArg (·+1) m3);have r0:(zH5 k1 k2 s.heap l1 l2).get? s.heap.objs.size=some (zO k1 l1):=up (up (up (up (Heap.get?_push_size _ rfl))));have r1:(zH5 k1 k2 s.heap l1 l2).get? (s.heap.push (zO k1 l1)).objs.size=some (zO k2 l2):=up (up (up (Heap.get?_push_size _ rfl)));have r2:(zH5 k1 k2 s.heap l1 l2).get? (zH2 k1 k2 s.heap l1 l2).objs.size=some _:=up (up (Heap.get?_push_size _ rfl));have r3:(zH5 k1 k2 s.heap l1 l2).get? (zH3 k1 k2 s.heap l1 l2).objs.size=some _:=up (Heap.get?_push_size _ rfl);have r4:(zH5 k1 k2 s.heap l1 l2).get? (zH4 k1 k2 s.heap l1 l2).objs.size=some _:=Heap.get?_push_size _ rfl;rw[m1] at r1;rw[m1,m2] at r2;rw[m3] at r3;rw[m2,m3,m4] at r4;show _/\_
 rw[m4];exact⟨⟨_,r4,rfl⟩,h _ ⟨r4,r2,⟨_,_,r3⟩,.mk r0 rfl rfl,.mk r1 rfl rfl⟩ fun c o x=>up (up (up (up (up x))))⟩
end
section
variable{X:Cx}{pins:List (Addr×Obj)}{σ:St}{H:Hp}{s:Shared}{h':Heap}{fp:List Addr}
theorem zOA{t':Nat}{p:Addr}{xs:List V}{us:List Value}(I:Inv X pins σ H s)(hf:∀ b∈fp,tW X pins H b)(k:∀ b o,b∉fp->s.heap.get? b=some o->h'.get? b=some o)
  (hp:s.heap.objs.size<=p) (ht:IsTup h' p us.toArray) (hv:dW xs us) (hz:xs.length<=sizeLine):Inv X pins σ (upd H p (.tup xs)) { s with heap:=h',toks:=t' }:=by
 have hn:H p=none:=I.hok.fresh hp;have nf:∀ b u,H b=some u->b∉fp:=fun b u e z=>by rw[(hf b z).1] at e;cases e
 have np:∀ b u,H b=some u->upd H p (.tup xs) b=some u:=fun b u e=>by rw[bA (bD e hn)];exact e
 refine I.step (g':=s.gens) (d':=s.drawn) (ch:=fp) (fun b hb=>⟨(hf b hb).2.2.2.1,(hf b hb).2.1,(hf b hb).2.2.2.2.1,(hf b hb).2.2.2.2.2⟩) (fun b o _ _ hc e _=>k b o hc e) (fun b o _ _ hc e _=>⟨o.slots,k b o hc e⟩) (fun b o _ e n=>?_)
  (fun b o hc e=>⟨o,k b o hc e⟩) (fun b xs e=>np _ _ e) (fun b o u e=>np _ _ e) (fun b ps e=>⟨#[],by rw[np _ _ e];simp⟩) (fun m hm=>?_) (fun b u e=>?_) I.bare
 ·rw[bA (Qt (Qp (Heap.lt_size e) hp))];exact n
 ·obtain⟨o,es,ep,ho,r⟩:=hm
  exact⟨o,es,ep,k _ o (fun z=>(hf _ z).2.1 rfl) ho,r⟩
 ·by_cases hb:b=p
  ·subst hb
   rw[aY] at e;cases e
   exact⟨hz,us,hv,ht⟩
  ·rw[bA hb] at e
   refine(I.hok b u e).stay (fun c v hc q=>k c v ?_ q) (fun _ q=>np _ _ q) fun _ _ q=>np _ _ q
   rcases hc with z | z
   ·rw[z];exact nf b u e
   ·exact nf c _ z
theorem zNw{t':Nat}(I:Inv X pins σ H s)(hf:∀ b∈fp,tW X pins H b)(k:∀ b o,b∉fp->s.heap.get? b=some o->h'.get? b=some o):Inv X pins σ H { s with heap:=h',toks:=t' }:=by
 have nf:∀ b u,H b=some u->b∉fp:=fun b u e z=>by rw[(hf b z).1] at e;cases e
 refine I.step (g':=s.gens) (d':=s.drawn) (ch:=fp) (fun b hb=>⟨(hf b hb).2.2.2.1,(hf b hb).2.1,(hf b hb).2.2.2.2.1,(hf b hb).2.2.2.2.2⟩) (fun b o _ _ hc e _=>k b o hc e) (fun b o _ _ hc e _=>⟨o.slots,k b o hc e⟩) (fun b o _ e n=>n)
  (fun b o hc e=>⟨o,k b o hc e⟩) (fun b xs e=>e) (fun b o u e=>e) (fun b ps e=>⟨#[],by rw[e];simp⟩) (fun m hm=>?_) (fun b u e=>?_) I.bare
 ·obtain⟨o,es,ep,ho,r⟩:=hm
  exact⟨o,es,ep,k _ o (fun z=>(hf _ z).2.1 rfl) ho,r⟩
 ·refine(I.hok b u e).stay (fun c v hc q=>k c v ?_ q) (fun _ q=>q) fun _ _ q=>q
  rcases hc with z | z
  ·rw[z];exact nf b u e
  ·exact nf c _ z
end
def SqK(k:Bool)(K:PySem.W.Frag)(H:Hp)(a:Addr)(xs:List V):Prop:=if k then SqL K H a xs else SqT K H a xs
theorem uE{k:Bool}{K:Fg_}{H H':Hp}(e:Same H H'){a:Addr}{xs:List V}(h:SqK k K H a xs):SqK k K H' a xs:=by
 cases k
 ·exact cG e h
 ·exact dB e h
section
variable{X:Cx}{pins:List (Addr×Obj)}{σ:St}{H:Hp}{s:Shared}{k:Bool}{a:Addr}{xs ys:List V}
theorem sqI(I:Inv X pins σ H s)(h:SqK k X.K H a xs):∃ its:List Value,dW xs its/\yF k s.heap a its.toArray/\xs.length<=sizeLine:=by
 cases k
 ·obtain⟨its,rv,p,hz⟩:=I.tuple h
  exact⟨its,rv,p,hz⟩
 ·obtain⟨its,rv,p,hz⟩:=I.list h
  exact⟨its,rv,p.isList,hz⟩
theorem zIg(I:Inv X pins σ H s)(h:SqK k X.K H a xs)(h':SqK k X.K H a ys):xs=ys:=by
 cases k
 ·exact I.tuple_inj h h'
 ·exact I.list_inj h h'
theorem yF.lt{h:Heap}{l:Addr}{xs:Array Value}(x:yF k h l xs):l<h.objs.size:=by
 cases k<;>(obtain⟨o,e,_⟩:=x;exact Heap.lt_size e)
end
def Itz(K:PySem.W.Frag)(k1 k2:Bool)(a1 a2:Addr):It:=
  ⟨fun i H=>∃ xs ys x y,SqK k1 K H a1 xs/\SqK k2 K H a2 ys/\xs[i]?=some x/\ys[i]?=some y,
   fun i H v H'=>∃ p x y,v=.ref p/\H p=none/\H'=upd H p (.tup [x,y])/\(∀ xs,SqK k1 K H a1 xs->xs[i]?=some x)/\∀ ys,SqK k2 K H a2 ys->ys[i]?=some y,
   fun i H=>∃ xs ys,SqK k1 K H a1 xs/\SqK k2 K H a2 ys/\(xs.length<=i∨ys.length<=i)⟩
def zTd(k1 k2:Bool)(a1 a2 n:Addr)(i:Nat)(h:Heap):Prop:=yS .none k1 k2 a1 a2 n i i h
theorem uZ{h:Heap}{b:Addr}{o:Obj}{d:Data}(e:h.get? b=some o)(hd:o.data=d)(nd:∀ v,d≠.cell v):∃ o,h.get? b=some o/\∀ v,o.data≠.cell v:=⟨o,e,fun v z=>nd v (hd.symm.trans z)⟩
theorem zKP{P:Program}{w:World}{K:Fg_}{elts:List Expr}{x1:Nat}{tp:Pos}(k1 k2:Bool)(a1 a2 n:Addr)(l1:a1<n)(l2:a2<n):
  Turn P w K (.Tuple elts x1 tp) (Itz K k1 k2 a1 a2) [n+4,n+2,n+3,n,n+1] (n+4) (zTd k1 k2 a1 a2 n) where
 mem:=by simp
 obj:=fun i h st b hb=>by
  obtain⟨t1,t2,⟨a,b',t3⟩,t4,t5⟩:=st;obtain⟨o4,e4,_,d4⟩:=t4.get;obtain⟨o5,e5,_,d5⟩:=t5.get;simp only[Qd,V6,or_false] at hb;rcases hb with rfl | rfl | rfl | rfl | rfl
  ·exact uZ t1 rfl fun v z=>by cases z
  ·exact uZ t2 rfl fun v z=>by cases z
  ·exact uZ t3 rfl fun v z=>by cases z
  ·exact uZ e4 d4 fun v z=>by cases z
  ·exact uZ e5 d5 fun v z=>by cases z
 keep:=fun i h h' st k=>by
  obtain⟨t1,t2,⟨a,b',t3⟩,t4,t5⟩:=st;exact⟨k _ (by simp) _ t1,k _ (by simp) _ t2,⟨a,b',k _ (by simp) _ t3⟩,t4.go fun o e=>k _ (by simp) o e,t5.go fun o e=>k _ (by simp) o e⟩
 item:=by
  intro X hP hw hK hc i pins s σ H E I hf st hg;subst hP hw hK;obtain⟨xs,ys,x,y,q1,q2,hx,hy⟩:=hg;obtain⟨us,r1,s1,z1⟩:=sqI I q1;obtain⟨ws,r2,s2,z2⟩:=sqI I q2;obtain⟨u,hu,ru⟩:=r1.get hx;obtain⟨v,hv,rv⟩:=r2.get hy;have hu':us.toArray[i]?=some u:=by simpa using hu
  have hv':ws.toArray[i]?=some v:=by simpa using hv
  have st':=st;obtain⟨t1,t2,⟨a,b,t3⟩,t4,t5⟩:=st;refine zSt (I.ok.hd hc) l1 l2 st' s1 s2 (fun x' y' f1 f2 h' g' p' kz=>?_) (fun q=>?_)
  rotate_left
  ·rw[hu',hv'] at q;rcases q with q | q<;>cases q
  rw[hu'] at f1;cases f1
  rw[hv'] at f2;cases f2
  refine⟨_,rfl,wpAny_letOwnedTupleGo_zip (s:={ s with heap:=h' }) g'.1 fun h'' c1 c2=>?_⟩
  have zl:s.heap.objs.size≠n+4:=Xk (Heap.lt_size t1);have np:H s.heap.objs.size=none:=I.hok.fresh (Qg _)
  have I1:Inv X pins σ (upd H s.heap.objs.size (.tup [x,y])) { s with heap:=h'',toks:=s.toks }:=zOA (us:=[u,v]) I hf (fun b o hb e=>by
    simp only[Qd,V6,or_false,not_or] at hb
    exact c2.extBut b o hb.1 (kz b o hb.1 hb.2.2.1 hb.2.2.2.1 hb.2.2.2.2 e)) (Qg _) ⟨_,c2.extBut _ _ zl p',rfl,_,rfl⟩ (.cons ru (.cons rv .nil)) (show 2<=sizeLine by decide)
  refine⟨.ref s.heap.objs.size,_,I1,rfl,⟨_,x,y,rfl,np,rfl,fun zs hz=>by rw[zIg I hz q1];exact hx,fun zs hz=>by rw[zIg I hz q2];exact hy⟩,g'.fld c1 c2.extBut,fun b hb=>?_⟩
  ·obtain⟨o,e,_⟩:∃ o,s.heap.get? b=some o/\True:=by
    obtain⟨o4,e4,_⟩:=t4.get;obtain⟨o5,e5,_⟩:=t5.get;simp only[Qd,V6,or_false] at hb;rcases hb with rfl | rfl | rfl | rfl | rfl
    ·exact⟨_,t1,trivial⟩
    ·exact⟨_,t2,trivial⟩
    ·exact⟨_,t3,trivial⟩
    ·exact⟨_,e4,trivial⟩
    ·exact⟨_,e5,trivial⟩
   rw[bA (Qt (Heap.lt_size e))];exact(hf b hb).1
 done:=by
  intro X hP hw hK hc i pins s σ H E I hf st hg;subst hP hw hK;obtain⟨xs,ys,q1,q2,hl⟩:=hg;obtain⟨us,r1,s1,z1⟩:=sqI I q1;obtain⟨ws,r2,s2,z2⟩:=sqI I q2;have st':=st;obtain⟨t1,t2,⟨a,b,t3⟩,t4,t5⟩:=st;have e1:=r1.length;have e2:=r2.length;refine zSt (I.ok.hd hc) l1 l2 st' s1 s2 (fun x y f1 f2=>?_) fun _ h' b7=>⟨rfl,zNw (t':=s.toks) I hf fun b o hb e=>?_⟩
  ·have m1:=(Yv.mp f1).1
   have m2:=(Yv.mp f2).1;rw[Qk] at m1 m2;omega
  ·simp only[Qd,V6,or_false,not_or] at hb
   exact b7 b o hb.1 hb.2.2.1 hb.2.2.2.1 hb.2.2.2.2 e
 self:=fun _ _ _ _ _ st h=>wpAny_pyIter_zip st.1 h
section
unseal PEd PEf PTd PWd PAd PSd fB POd PGd jQ PId PSx nZ PTs PCd PCf
variable{X:Cx}{G:Gx}{fs:Fv}{f:Ev}
def iZp(K:PySem.W.Frag)(ta:TA):TI:=fun σ H R=>ta σ H fun vs H1=>∃ k1 k2 a1 a2 xs ys,vs=[.ref a1,.ref a2]/\SqK k1 K H1 a1 xs/\SqK k2 K H1 a2 ys/\R (Itz K k1 k2 a1 a2) H1
theorem zQf{a b:Expr}{ta:TA}{p pos:Pos}{elts:List Expr}{x1:Nat}{tp:Pos}(hg:Gl X "zip")(hm:X.mg "zip" = none)(ha:PA X [a,b] ta)
  (hs:starEach [a,b] X.env=[(false,eval a X.env),(false,eval b X.env)]:=by rfl) (hs2:starEach [b] X.env=[(false,eval b X.env)]:=by rfl):PI X (.Tuple elts x1 tp) (.Call (.Name "zip" p) [a,b] [] pos) (iZp X.K ta):=by
 intro pins s σ H R I h;refine Call_ (pU I hg hm boot_zip (VU (thn (ha pos pins s σ H _ I h) fun us s1 ⟨vs,H1,I1,r1,q1⟩=>?_) (by rw[hs,hs2]) (by rw[hs2];rfl)))
 obtain⟨k1,k2,a1,a2,xs,ys,rfl,h1,h2,q⟩:=q1
 cases r1 with
 | cons r rr=>
  cases rr with
  | cons r' rr=>
   cases rr;cases r;cases r'
   obtain⟨us,rv,p1,z1⟩:=sqI I1 h1;obtain⟨ws,rw_,p2,z2⟩:=sqI I1 h2;refine zLn p1 p2 fun h' b1 b6=>wpAny_pyIter_zip (s:={ s1 with heap:=h' }) b1.1 ?_
   refine⟨s1.heap.objs.size+4,_,_,_,H1,rfl,I1.kept (t':=s1.toks) b6,zKP k1 k2 a1 a2 s1.heap.objs.size p1.lt p2.lt,b1,fun b hb=>?_,q⟩
   have hb':s1.heap.objs.size<=b:=by
    simp only[Qd,V6,or_false] at hb;rcases hb with rfl | rfl | rfl | rfl | rfl<;>omega
   exact I1.fpOk hb' (I1.hok.fresh hb')
theorem zCX:∀(xs ys:List D)(i:Nat)(d:D),(gT xs ys)[i]?=some d->∃ a b,xs[i]?=some a/\ys[i]?=some b/\d=.tup [a,b]
 | a::r,b::q,0,d,h=>by cases h;exact⟨a,b,rfl,rfl,rfl⟩
 | a::r,b::q,i+1,d,h=>zCX r q i d h
 | [],_,i,d,h=>by cases i<;>cases h
 | a::r,[],i,d,h=>by cases i<;>cases h
theorem zBR:∀(xs ys:List D),(gT xs ys).length=min xs.length ys.length
 | a::r,b::q=>by
  have:=zBR r q
  simp only[gT,Qn,this];omega
 | [],_=>by simp[gT]
 | a::r,[]=>by simp[gT]
theorem zHl{K:Fg_}{Hi:Hp}{k1 k2:Bool}{a1 a2:Addr}{xs ys:List V}{ds es:List D}(h1:SqK k1 K Hi a1 xs)(h2:IsDs K Hi xs ds)(h3:SqK k2 K Hi a2 ys)(h4:IsDs K Hi ys es):
  xQ K Hi (Itz K k1 k2 a1 a2) (gT ds es):=fun Hi1 H1 s1 s2 i=>by
 have g1:=uE (s1.trans s2) h1;have g3:=uE (s1.trans s2) h3;refine⟨fun hl=>⟨xs,ys,g1,g3,?_⟩,fun d hd=>?_⟩
 ·rw[zBR] at hl
  have e1:=h2.length;have e2:=h4.length;omega
 ·obtain⟨a,b,ha,hb,rfl⟩:=zCX ds es i d hd
  obtain⟨v,hv,rv⟩:=h2.at ha;obtain⟨w,hw,rw_⟩:=h4.at hb;refine⟨⟨xs,ys,v,w,g1,g3,hv,hw⟩,fun x H2 y=>?_⟩
  obtain⟨p,x',y',rfl,hp,rfl,y1,y2⟩:=y;have e1:=y1 xs g1;have e2:=y2 ys g3;rw[hv] at e1;cases e1
  rw[hw] at e2;cases e2
  have hi:=s2.none hp;have sm:=dG hi (.tup [v,w]);exact⟨upd Hi1 p (.tup [v,w]),Ext.new s2 hp,.tup (.inl (.inl aY)) (.cons ((rv.mono s1).mono sm) (.cons ((rw_.mono s1).mono sm) .nil))⟩
theorem zSx{K:Fg_}{H:Hp}{v:V}{d:D}{ds:List D}(h:IsD K H v d)(e:zKg d=some ds):∃ k a xs,v=.ref a/\SqK k K H a xs/\IsDs K H xs ds:=by
 cases d with
 | lst es=>cases e;obtain⟨a,xs,rfl,h1,h2⟩:=h.lstI;exact⟨true,a,xs,rfl,h1,h2⟩
 | tup es=>cases e;obtain⟨a,xs,rfl,h1,h2⟩:=h.tupI;exact⟨false,a,xs,rfl,h1,h2⟩
 | _=>cases e
theorem zGA{a b:Expr}{p pos:Pos}{elts:List Expr}{x1:Nat}{tp:Pos}(hg:Gl X "zip")(hm:X.mg "zip" = none)(ha:PAd X G [a,b] fs)
  (hs:starEach [a,b] X.env=[(false,eval a X.env),(false,eval b X.env)]:=by rfl) (hs2:starEach [b] X.env=[(false,eval b X.env)]:=by rfl):
  PId X G (.Tuple elts x1 tp) (.Call (.Name "zip" p) [a,b] [] pos) (zLt fs):=PI.wk (zQf hg hm ha hs hs2) fun σ H Q q=>by
 obtain⟨ρ,Hi,R,ou⟩:=q;refine zKh R ou fun vs ds Hi1 H1 e1 R1 r1 o1=>?_
 split at o1
 ·rename_i x y
  obtain⟨v,w,rfl,h,h'⟩:=r1.two;split at o1
  ·rename_i ds es q1 q2
   obtain⟨k1,a1,xs,rfl,g1,g2⟩:=zSx h q1;obtain⟨k2,a2,ys,rfl,g3,g4⟩:=zSx h' q2;exact⟨k1,k2,a1,a2,xs,ys,rfl,uE R1.s g1,uE R1.s g3,o1.here R1.s _ (zHl g1 g2 g3 g4)⟩
  ·exact o1.elim
 ·exact o1.elim
end
end L3
namespace L3
open PySem PySem.Spec PyProof.Rows L2
unseal PEd PEf PTd PWd PAd PSd fB POd PGd jQ PId PSx nZ PTs PCd PCf
structure BlkOk2 (X:Cx) (xs:List Str) (scope:Scope):Prop where
 kind:scope.kind=.function
 cell:∀ y∈scope.names,y.2≠.cell
 loc:∀ x∈xs,scope.names.lookup x=some .local
 names:∀ y∈scope.names,y.2=.local->scope.names.lookup y.1=some .local
 fre:∀ p∈scope.names,p.2=.free->X.env.kindOf p.1=some .cell∨X.env.kindOf p.1=some .free
 oth:∀ y∈X.N,scope.names.lookup y≠some .local
def zDE(X:Cx)(xs:List Str)(scope:Scope)(C:Addr)(s₂:Shared)(H₂:Hp)(fp:List Addr):Cx:=
  { prog:=X.prog,w:=X.w,K:=X.K,mg:=X.mg,base:=X.base,A:=X.A,N:=X.N++xs,s₀:=s₂,H₀:=H₂,env:=compEnvC scope (zDI X.env scope.names []) C X.env,outer:=X.stack,stack:=X.stack,
    ex:=fp,fn:=fun _=>false,calm:=X.calm,pn:=X.pn,xe:=fun _ _=>False }
section
variable{X:Cx}{pins:List (Addr×Obj)}{σ:St}{H:Hp}{s₂:Shared}{xs:List Str}{scope:Scope}{fp:List Addr}{D C:Addr}{h₁:Heap}
theorem BlkOk2.cl(B:BlkOk2 X xs scope)(I:Inv X pins σ H s₂):∀ p∈scope.names,p.2=.free->∃ c,X.env.cells.lookup p.1=some c:=fun p hp e=>I.ok.has p.1 (B.fre p hp e)
theorem zPk(I:Inv X pins σ H s₂)(B:BlkOk2 X xs scope)(hfp:∀ b∈fp,tW X pins H b)(hfl:∀ b∈fp,b<s₂.heap.objs.size)(hD:s₂.heap.objs.size<=D)(hC:s₂.heap.objs.size<=C)(hDC:D≠C)
  (old:∀ b o,s₂.heap.get? b=some o->h₁.get? b=some o) {n:Nat} (hacc:h₁.get? D=some { cls:=.type "list", data:=.seq ([]:List Value).toArray n }) {m:Str->Option Value} (hns:h₁.Ns C m) (t:Nat):
  Inv (zDE X xs scope C s₂ H fp) pins (σ++xs.map fun _=>none) (upd H D (.lst [])) { s₂ with heap:=h₁,toks:=t }:=by
 have sub:=wI scope.names [] (B.cl I) (fun y c e=>nomatch e)
 have old_lt:∀ {b:Addr} {o:Obj},s₂.heap.get? b=some o->b≠D/\b≠C:=fun e=>⟨Qt (Qp (Heap.lt_size e) hD),Qt (Qp (Heap.lt_size e) hC)⟩
 have free:∀ {b:Addr},b≠D->H b=none->upd H D (.lst []) b=none:=fun n e=>by rw[bA n];exact e
 refine⟨⟨I.ok.mod,B.kind,I.ok.glob,I.ok.blt,hC,fun y z c e1 e2=>I.ok.inj y z c (sub y c e1) (sub z c e2),fun y hy=>?_,fun y c e=>(nomatch e),I.ok.hd,I.ok.frames,.inl rfl,fun b hb=>⟨Qt (Qp (hfl b hb) hC),fun y c e=>(hfp b hb).2.2.2.2.1 y c (sub y c e)⟩,
  I.bs,QD I.ok.bsz I.sz,fun b o e hb=>?_,fun b hb z=>?_,I.stack,I.stkFree⟩,rfl,I.bare,Un.laid old hD (I.hok.fresh hD),⟨m,hns,fun i y v e1 e2 e3=>?_⟩,fun y c e=>?_,free (Ne.symm hDC) (I.hok.fresh hC),fun y c e=>?_,fun p hp=>?_,I.hok.laid old hD ⟨QZ _,[],n,.nil,hacc⟩,?_⟩
 ·have:∃ k,(k=NameKind.cell∨k=NameKind.free)/\((relabel scope X.env).names).lookup y=some k:=hy.elim (fun h=>⟨_,.inl rfl,h⟩) fun h=>⟨_,.inr rfl,h⟩
  obtain⟨k,hk,e⟩:=this
  have e':(y,NameKind.free)∈scope.names:=by
   rcases cN e with z | ⟨_,z⟩
   ·rcases hk with rfl | rfl
    ·exact absurd rfl (B.cell _ (bW z))
    ·exact bW z
   ·exact bW z
  exact vW scope.names [] y e'
 ·rcases (hfp b hb).2.2.2.1 with z | z
  ·exact I.ok.noex b o e z
  ·exact absurd (Qp (Heap.lt_size e) (QD I.ok.bsz z)) (Vh _)
 ·rcases Qd.mp (I.stkSub b z) with w | w
  ·exact(hfp b hb).2.1 w
  ·exact(hfp b hb).2.2.1 w
 ·
  have hi:i<σ.length:=by
   by_cases hi:i<σ.length
   ·exact hi
   ·exfalso
    rw[QS (by omega),Qr] at e2
    cases q:xs[i-σ.length]? with
    | none=>rw[q] at e2;cases e2
    | some z=>rw[q] at e2;cases e2
  rw[QR hi] at e2;have e1':(X.N++xs)[i]?=some y:=e1;rw[QR (by rw[<-I.len];exact hi)] at e1'
  cases q:X.N[i]? with
  | none=>rw[q] at e1';cases e1'
  | some z=>
   rw[q] at e1';have hy:z=y:=QP e1';have hz:z∈X.N:=Qi q;subst hy
   have fr:(z,NameKind.free)∈scope.names:=by
    rcases e3 with h | h | h
    ·rcases cN h with h | ⟨h,_⟩
     ·exact absurd h (B.oth z hz)
     ·cases h
    ·rcases cN h with h | ⟨_,h⟩
     ·exact absurd rfl (B.cell _ (bW h))
     ·exact bW h
    ·rcases cN h with h | ⟨h,_⟩
     ·exact bW h
     ·cases h
   have kd:=B.fre _ fr rfl;obtain⟨m0,hn0,hl⟩:=I.loc;obtain⟨u,ru,lk⟩:=hl i z v q e2 (kd.elim (fun h=>.inr (.inl h)) fun h=>.inr (.inr h))
   refine⟨u,ru,.inr ⟨?_,?_⟩⟩
   ·rcases e3 with h | h | h
    ·rcases cN h with h | ⟨h,_⟩
     ·exact absurd h (B.oth z hz)
     ·cases h
    ·exact .inl h
    ·exact .inr h
   ·rcases lk with⟨k1,_⟩ | ⟨_,c,hc,hcell⟩
    ·rcases kd with kd | kd<;>(rw[kd] at k1;cases k1)
    ·obtain⟨c',hc'⟩:=vW (env:=X.env) scope.names [] z fr
     have:=sub z c' hc'
     rw[hc] at this;cases this;obtain⟨o,ho,hd⟩:=hcell;exact⟨c,hc',o,old _ _ ho,hd⟩
 ·obtain⟨v,o,ho,hd⟩:=I.cell y c (sub y c e)
  exact⟨v,o,old _ _ ho,hd⟩
 ·obtain⟨v,o,ho,hd⟩:=I.cell y c (sub y c e)
  exact free (old_lt ho).1 (I.freeC y c (sub y c e))
 ·obtain⟨e,n,ne,nf,d⟩:=I.pin p hp
  refine⟨old _ _ e,free (old_lt e).1 n,(old_lt e).2,fun z=>?_,d⟩
  rcases Qd.mp (I.stkSub _ z) with w | w
  ·exact ne w
  ·exact nf w
 ·show(σ++xs.map fun _=>none).length=(X.N++xs).length
  rw[Qm,Qm,Qe,I.len]
end
theorem zEN{f:Ev}{ρ:Rho}{d:D}{ds es:List D}(h:gG f ρ (d::ds)=.ok es):
  ∃ a b e es',d=.tup [a,b]/\f (ρ++[.val a,.val b])=.ok e/\gG f ρ ds=.ok es'/\es=e::es':=by
 unfold gG at h;split at h
 ·cases ‹_=[]›
 ·rename_i a b ds' q
  cases q
  cases hf:noErr (f (ρ++[.val a,.val b])) with
  | no=>rw[hf] at h;cases h
  | err c=>rw[hf] at h;cases h
  | ok e=>
   rw[hf] at h
   cases hr:gG f ρ ds with
   | no=>simp only[Res.bind,hr] at h;cases h
   | err c=>simp only[Res.bind,hr] at h;cases h
   | ok es'=>
    simp only[Res.bind,hr] at h;cases h;exact⟨a,b,e,es',rfl,zBi hf,rfl,rfl⟩
 ·cases h
theorem zBT{f:Ev}{ρ:Rho}{c:Str}:∀ {ds:List D},gG f ρ ds≠.err c
 | []=>fun h=>by cases h
 | d::ds=>fun h=>by
  unfold gG at h;split at h
  ·cases ‹_=[]›
  ·rename_i a b ds' q
   cases q
   cases hf:noErr (f (ρ++[.val a,.val b])) with
   | no=>rw[hf] at h;cases h
   | err c=>cases q:f (ρ++[.val a,.val b])<;>(rw[q] at hf;cases hf)
   | ok e=>
    rw[hf] at h
    cases hr:gG f ρ ds with
    | no=>simp only[Res.bind,hr] at h;cases h
    | err c'=>exact zBT hr
    | ok es'=>simp only[Res.bind,hr] at h;cases h
  ·cases h
section
variable{X:Cx}{G:Gx}{elt iter:Expr}{xa xb:Str}{pa pb tp pos:Pos}{x1:Nat}{scope:Scope}{it:Fv}{f:Ev}{k:Nat}
theorem zGE(hc:X.calm=true/\TB X.K X.mg G.Bi G.B)(hr:Room k X.A)(Bk:BlkOk2 X [xa,xb] scope)(hN:(X.N++[xa,xb]).Nodup)(hi:PId X G (.Tuple [.Name xa pa,.Name xb pb] x1 tp) iter it)
  (hb:∀(C:Addr)(s₂:Shared)(H₂:Hp)(fp:List Addr)(G':Gx),Good (zDE X [xa,xb] scope C s₂ H₂ fp) G' k->PEd (zDE X [xa,xb] scope C s₂ H₂ fp) G' elt f)
  (hs:∀ x,foldedSetIterable iter X.env x=pure x:=by intro _;rfl)
  {pins:List (Addr×Obj)} {s:Shared} {σ:St} {H Hi:Hp} {ρ:Rho} {use:Option (Value->Sem Unit)} {Q':Value->Shared->Prop} {Qa:Addr->Hp->Prop} {cpos:Pos} (I:Inv X pins σ H s) (R:lU X G Hi H σ ρ)
  (ou:Out G Hi H ((uM it f) ρ) fun ds Hi' H'=>∀ a,zLk X.K H Hi' H' a ds->Qa a H') (hend:zSz X pins σ use Q' Qa):
  wpAny (model X.prog X.w) X.A (comprehension (.ListComp elt [⟨.Tuple [.Name xa pa,.Name xb pb] x1 tp,iter,[],0⟩] scope pos) scope X.env cpos (newList []) false (eval iter X.env) use) Q' X.xe s:=by
 refine wpAny_comprehension_free (use:=use) rfl hs (zLD (Bk.cl I)) Bk.kind Bk.names ?_
 refine thn (hi pins s σ H (fun J H2=>∃ ds Hi2,Ext Hi H Hi2 H2/\xQ X.K Hi2 J ds/\Out G Hi2 H2 (if ds.length<=16777215 then gG f ρ ds else .no) fun ds Hi' H'=>∀ a,zLk X.K H Hi' H' a ds->Qa a H') I
  ⟨ρ,Hi,R,(Out.bind ou).imp fun ds Hi2 H2 e2 o2 J gv=>⟨ds,Hi2,e2,gv,o2⟩⟩) fun v s1 h1=>thn h1 fun itv s2 h2=>?_
 obtain⟨itA,fp,tn,J,H2,rfl,I2,T,st2,f2,ds,Hi2,e2,gv,ou2⟩:=h2
 have hlen:ds.length<=16777215:=by
  by_cases hlen:ds.length<=16777215
  ·exact hlen
  ·rw[if_neg hlen] at ou2;exact ou2.elim
 rw[if_pos hlen] at ou2
 cases hes:gG f ρ ds with
 | no=>rw[hes] at ou2;exact ou2.elim
 | err c=>exact absurd hes zBT
 | ok es=>
  rw[hes] at ou2;have R2:lU X G Hi2 H2 σ ρ:=R.grow e2;refine wpAny_newObj_type (wpAny_newFunctionEnv Bk.cell (by intro y hy;simp at hy) (fun h₁ hns₁ hsb₁=>?_) Bk.kind)
  dsimp only at hns₁ hsb₁ ⊢
  generalize hH2:s2.heap.push { cls:=.type "list", dict:=none,data:=.seq ([]:List Value).toArray }=HP at hns₁ hsb₁ ⊢;have hC:HP.objs.size=s2.heap.objs.size+1:=by rw[<-hH2,Heap.size_push]
  have hDC:s2.heap.objs.size≠HP.objs.size:=by rw[hC];omega
  have ltC:∀ {b:Addr} {o:Obj},s2.heap.get? b=some o->b≠HP.objs.size:=fun e=>by rw[hC];exact Qt (VF (Heap.lt_size e))
  have old:∀ b o,s2.heap.get? b=some o->h₁.get? b=some o:=fun b o e=>hsb₁.extBut b o (ltC e) (Heap.get?_push_of_some _ (hH2 ▸ Heap.get?_push_of_some _ e))
  have hacc:h₁.get? s2.heap.objs.size=some { cls:=.type "list", data:=.seq ([]:List Value).toArray 0 }:=hsb₁.extBut _ _ hDC (Heap.get?_push_of_some _ (hH2 ▸ Heap.get?_push_size _ rfl));have hfl:∀ b∈fp,b<s2.heap.objs.size:=fun b hb=>by obtain⟨o,e,_⟩:=T.obj _ _ st2 b hb;exact Heap.lt_size e
  have IE:=zPk (t:=s2.toks+([]:List (Str×Value)).length) I2 Bk f2 hfl (Qg _) (by rw[hC];omega) hDC old hacc hns₁
  have sub:=wI scope.names [] (Bk.cl I2) (fun y c e=>nomatch e)
  have H2D:H2 s2.heap.objs.size=none:=I2.hok.fresh (Qg _);have HD:H s2.heap.objs.size=none:=e2.h.none H2D;have Hi2D:Hi2 s2.heap.objs.size=none:=e2.s.none H2D;generalize hX:zDE X [xa,xb] scope HP.objs.size s2 H2 fp=Y at IE
  have GY:Good Y ⟨G.B,G.Bi,fun _ _=>False⟩ k:=by
   subst hX;exact⟨hc.1,hr,fun pins σ H s e s' _ h=>by obtain⟨_,_,_,_,_,c,_,z⟩:=h;exact z.elim,PassesOwn.never,hc.2⟩
  have hel:=(hX ▸ hb HP.objs.size s2 H2 fp ⟨G.B,G.Bi,fun _ _=>False⟩ (hX.symm ▸ GY):PEd Y ⟨G.B,G.Bi,fun _ _=>False⟩ elt f)
  have stat:∀ {H':Hp},(∀ b∈fp,H' b=none)->∀ b∈fp,tW Y pins H' b:=fun hn b hb=>by
   subst hX;refine⟨hn b hb,?_,fun z=>?_,.inl hb,fun y c e=>(f2 b hb).2.2.2.2.1 y c (sub y c e),(f2 b hb).2.2.2.2.2⟩
   ·show b≠HP.objs.size
    rw[hC];exact Qt (VF (hfl b hb))
   ·rcases Qd.mp (I2.stkSub b z) with w | w
    ·exact(f2 b hb).2.1 w
    ·exact(f2 b hb).2.2.1 w
  have YN:Y.N.Nodup:=by subst hX;exact hN
  have Ya:Y.N[σ.length]?=some xa:=by
   subst hX;show(X.N++[xa,xb])[σ.length]?=some xa
   rw[QS (by rw[I2.len];omega),I2.len,V4];rfl
  have Yb:Y.N[σ.length+1]?=some xb:=by
   subst hX;show(X.N++[xa,xb])[σ.length+1]?=some xb
   rw[QS (by rw[I2.len];omega),I2.len,Nat.add_sub_cancel_left];rfl
  have Yla:Y.env.scope.names.lookup xa=some .local:=by subst hX;exact lookup_relabel_local (Bk.loc xa (by simp))
  have Ylb:Y.env.scope.names.lookup xb=some .local:=by subst hX;exact lookup_relabel_local (Bk.loc xb (by simp))
  have asg:PG Y (.Tuple [.Name xa pa,.Name xb pb] x1 tp) (L2.zIY Y.K 2 (L2.oH (L2.gName σ.length) (L2.oH (L2.gName (σ.length+1)) L2.zHv))):=
   zJY (by subst hX;exact hc.1) (qI (vY YN Ya (.inl Yla) (.inr Yla)) (qI (vY YN Yb (.inl Ylb) (.inr Ylb)) zDV))
  have Ye:Y.env=compEnvC scope (zDI X.env scope.names []) HP.objs.size X.env:=by subst hX;rfl
  have Yxe:∀ e s,¬ Y.xe e s:=by subst hX;exact fun _ _ h=>h
  have tn1:tn 0 h₁:=T.keep _ _ _ st2 fun b _ o e=>old b o e
  have fS:∀ s3:Shared,s3={ s2 with heap:=h₁,toks:=s2.toks+([]:List (Str×Value)).length }->
    codeAny (model X.prog X.w) X.A (.compLoop (.ListComp elt [⟨.Tuple [.Name xa pa,.Name xb pb] x1 tp,iter,[],0⟩] scope pos) 0 (.ref itA) (.ref s2.heap.objs.size) Y.env) (compPost (model X.prog X.w) X.A X.xe use Q' (.ref s2.heap.objs.size) HP.objs.size) s3:=by
   rintro s3 rfl
   subst hX
   have fr0:∀ b∈fp,upd H2 s2.heap.objs.size (.lst []) b=none:=fun b hb=>by
    rw[bA (Qt (hfl b hb))];exact(f2 b hb).1
   refine PyProof.Rows.LCp.codeAny_compLoop_pair (fun n s'=>∃ c:CW,n=ds.length-c.i/\CS (zDE X [xa,xb] scope HP.objs.size s2 H2 fp) pins σ tn fp Hi2 H2 s2.heap.objs.size 2 (fun i=>gG f ρ (ds.drop i)) es c s') ?_ ds.length
    ⟨⟨0,[none,none],_,Hi2,[],[],es⟩,rfl,⟨IE,rfl,tn1,fr0,(Ext.refl e2.s).trans (Ext.newF e2.s H2D),aY,Hi2D,.nil,Qg _,hes,rfl⟩⟩
   ·rintro n s3 ⟨⟨i,vv,H3,Hi3,ys,done,rest⟩,rfl,I3,wd3,st3,fr3,e3,hD3,hiD3,rd3,hl3,hr3,hes3⟩
    dsimp only at I3 wd3 st3 fr3 e3 hD3 hiD3 rd3 hl3 hr3 hes3 ⊢
    obtain⟨v,v',rfl⟩:∃ v v',vv=[v,v']:=by
     match vv,wd3 with
     | [v,v'],_=>exact⟨v,v',rfl⟩
    obtain⟨w1,w2⟩:=gv Hi3 H3 e3.i e3.s i;have lift:∀ {α:Type} {m:Sem α} {Q':α->Shared->Prop} {E:Value->Shared->Prop} {s':Shared},wpAny (model X.prog X.w) X.A m Q' (zDE X [xa,xb] scope HP.objs.size s2 H2 fp).xe s'->wpAny (model X.prog X.w) X.A m Q' E s':=fun h=>wpAny_mono h (fun _ _ z=>z) fun e s z=>(Yxe e s z).elim
    by_cases hlt:i<ds.length
    ·obtain⟨d,hd⟩:∃ d,ds[i]?=some d:=⟨_,Ql hlt⟩
     obtain⟨go,yl⟩:=w2 d hd
     have e4:ds.drop i=d::ds.drop (i+1):=by
      rw[Ql hlt] at hd;cases hd;exact V3 hlt
     rw[e4] at hr3;refine thn (T.item (zDE X [xa,xb] scope HP.objs.size s2 H2 fp) rfl rfl rfl hc.1 i pins s3 _ H3 _ I3 (stat fr3) st3 go) fun r s4 ⟨u,hru,h4⟩=>?_
     subst hru;refine thn h4 fun _ s5 h5=>?_
     obtain⟨xv,H5,I5,r5,y5,st5,fr5⟩:=h5;obtain⟨Hi5,e5,rd5⟩:=yl xv H5 y5;have I5':=I5.pinned (stat fr5) (T.obj _ _ st5);obtain⟨a,b,e,es',rfl,hf,hr4,hee⟩:=zEN hr3;obtain⟨pa',ps,rfl,hq,hps⟩:=rd5.tupI;obtain⟨va,vb,rfl,ra,rb⟩:=hps.two;refine lift (thn (asg _ s5 _ H5 _ u (fun σ' H'=>σ'=σ++[some va,some vb]/\H'=H5) I5' r5 ⟨pa',_,rfl,cG (e3.trans e5).s hq,rfl,va,_,rfl,vb,_,rfl,rfl,?_,rfl⟩) fun _ s6 h6=>?_)
     ·rw[XZ _ _ (Qg _),V4,XZ _ _ (Nat.le_succ _),Nat.succ_sub (Qg _),V4];rfl
     obtain⟨σ6,H6,I6,rfl,rfl⟩:=h6;have E5:Ext Hi2 H2 Hi5 H6:=e3.trans e5
     have R5:lU (zDE X [xa,xb] scope HP.objs.size s2 H2 fp) ⟨G.B,G.Bi,fun _ _=>False⟩ Hi5 H6 (σ++[some va,some vb]) (ρ++[.val a,.val b]):=by
      have:=Rel.snoc (Rel.snoc (R2.grow E5) ra) rb
      rw[QY,QY] at this;exact this
     obtain⟨hD5,hiD5⟩:=e5.out hD3 hiD3;have rd5':=rd3.mono e5.i
     have again:∀ {H8 Hi8:Hp} {ys':List V} {done' rest':List D} {s8:Shared},Inv (zDE X [xa,xb] scope HP.objs.size s2 H2 fp) (pins++vJ fp s5.heap) (σ++[some va,some vb]) H8 s8->Ext Hi2 H2 Hi8 H8->H8 s2.heap.objs.size=some (.lst ys')->Hi8 s2.heap.objs.size=none->IsDs X.K Hi8 ys' done'->done'.length<=i+1->
       gG f ρ (ds.drop (i+1))=.ok rest'->es=done'++rest'->∃ m,m<ds.length-i/\∃ c:CW,m=ds.length-c.i/\CS (zDE X [xa,xb] scope HP.objs.size s2 H2 fp) pins σ tn fp Hi2 H2 s2.heap.objs.size 2 (fun i=>gG f ρ (ds.drop i)) es c s8:=fun {H8 Hi8 ys' done' rest' s8} I8 E8 a1 a2 a3 a4 a5 a6=>by
      refine⟨ds.length-(i+1),by omega,⟨i+1,[some va,some vb],H8,Hi8,ys',done',rest'⟩,rfl,⟨I8.unpinned,rfl,T.keep _ _ _ st5 fun b hb o e=>(I8.pin (b,o) (Qz _ (Qz _ (fP hb e)))).1,fun b hb=>?_,E8,a1,a2,a3,a4,a5,a6⟩⟩
      obtain⟨o,e,_⟩:=T.obj _ _ st5 b hb;exact(I8.pin (b,o) (Qz _ (Qz _ (fP hb e)))).2.1
     refine lift (thn (hel _ s6 _ H6 (fun w H'=>∃ Hi',Ext Hi5 H6 Hi' H'/\IsD X.K Hi' w e) I6 ⟨_,Hi5,R5,by rw[hf];exact fun Hi' H' ee w hw=>⟨Hi',ee,hw⟩⟩) fun u8 s8 h8=>?_)
     obtain⟨w8,H8,I8,r8,Hi8,e8,rw8⟩:=h8;obtain⟨hD8,hiD8⟩:=e8.out hD5 hiD5;have rdy:IsDs X.K Hi8 ys done:=rd5'.mono e8.i;refine lift (thn (uQ (X:=(zDE X [xa,xb] scope HP.objs.size s2 H2 fp)) _ s8 _ H8 (.ref s2.heap.objs.size) [w8] (.ref s2.heap.objs.size) [u8] (fun _ H'=>H'=upd H8 s2.heap.objs.size (.lst (ys++[w8]))) I8 rfl (.cons r8 .nil) ⟨_,ys,w8,rfl,rfl,hD8,?_,rfl⟩) fun _ s9 h9=>?_)
     ·rw[rdy.length]
      exact Vq hl3 (Qp hlt (QD hlen (by decide)))
     ·obtain⟨_,H9,I9,_,rfl⟩:=h9
      refine again I9 (Ext.rewrite (E5.trans e8) H2D hiD8 ⟨_,hD8⟩) aY hiD8 (rdy.snoc rw8) (by rw[Qm];exact XN hl3) hr4 ?_
      rw[hes3,hee,QY];rfl
    ·rw[VN (by omega),gG] at hr3
     cases hr3;refine thn (T.done (zDE X [xa,xb] scope HP.objs.size s2 H2 fp) rfl rfl rfl hc.1 i pins s3 _ H3 _ I3 (stat fr3) st3 (w1 (by omega))) fun r s4 ⟨hrn,I4⟩=>?_
     subst hrn;obtain⟨m4,hn4,_⟩:=I4.loc;have fC:H3 HP.objs.size=none:=I4.free;have nC:∀ b u,H3 b=some u->b≠HP.objs.size:=fun b u e z=>by rw[z,fC] at e;cases e
     have U4:=I4.base;refine hend HP.objs.size s2.heap.objs.size m4 s4 H3 hn4 (fun h' hs'=>?_) (I2.fpOk (by rw[hC];omega) fC) ?_
     ·have kp:∀ b o,b≠HP.objs.size->s4.heap.get? b=some o->h'.get? b=some o:=fun b o hb e=>hs'.extBut b o hb e
      refine Inv.call' I2 (ch:=fp) I4.os ⟨fun b o e n hb hx=>kp b o (ltC e) (U4.keep b o e n hb hx),fun b o e n hb hx=>?_,U4.free,fun b o e hx=>?_,U4.tups,U4.frzs,U4.tbls⟩ (fun b u e=>?_) I4.bare (fun b hb=>⟨(f2 b hb).2.2.2.1,(f2 b hb).2.1,(f2 b hb).2.2.2.2.1,(f2 b hb).2.2.2.2.2⟩)
      ·obtain⟨sl,q⟩:=U4.slot b o e n hb hx
       exact⟨sl,kp b _ (ltC e) q⟩
      ·obtain⟨o',q⟩:=U4.there b o e hx
       exact⟨o',kp b _ (ltC e) q⟩
      ·refine(I4.hok b u e).stay (fun c v hc q=>kp c v ?_ q) (fun _ q=>q) fun _ _ q=>q
       rcases hc with z | z
       ·rw[z];exact nC b u e
       ·exact nC c _ z
     ·refine ou2 Hi3 H3 e3 _ ⟨HD,hiD3,ys,hD3,?_⟩
      rw[hes3,QK];exact rd3
  rw[Ye] at fS;exact codeAny_compStart_list (fS _ rfl) (T.self _ 0 _ _ _ tn1 (fS _ rfl))
theorem zKX(hc:X.calm=true/\TB X.K X.mg G.Bi G.B)(hr:Room k X.A)(Bk:BlkOk2 X [xa,xb] scope)(hN:(X.N++[xa,xb]).Nodup)(hi:PId X G (.Tuple [.Name xa pa,.Name xb pb] x1 tp) iter it)
  (hb:∀(C:Addr)(s₂:Shared)(H₂:Hp)(fp:List Addr)(G':Gx),Good (zDE X [xa,xb] scope C s₂ H₂ fp) G' k->PEd (zDE X [xa,xb] scope C s₂ H₂ fp) G' elt f)
  (hs:∀ x,foldedSetIterable iter X.env x=pure x:=by intro _;rfl):PEf X G (.ListComp elt [⟨.Tuple [.Name xa pa,.Name xb pb] x1 tp,iter,[],0⟩] scope pos) (uM it f):=by
 intro pins s σ H Q I w;obtain⟨ρ,Hi,R,ou⟩:=w;rw[eval_ListComp];refine zGE hc hr Bk hN hi hb hs (use:=none) (Qa:=fun a H'=>Q (.ref a) H') I R ou fun C A m s4 H3 hn hI _ q=>?_
 exact⟨m,hn,fun h' hs'=>⟨.ref A,H3,hI h' hs',rfl,q⟩⟩
def zNI(sc:Scope)(N:List Str)(xs:List Str)(scope:Scope):Bool:=
 scope.names.all (fun y=>y.2 != .cell) && xs.all (fun x=>scope.names.lookup x==some .local) && scope.names.all (fun y=>y.2 != .local || scope.names.lookup y.1==some .local)
  && scope.names.all (fun p=>p.2 != .free || (sc.names.lookup p.1==some .cell || sc.names.lookup p.1==some .free)) && N.all (fun y=>scope.names.lookup y != some .local)
theorem zOK{sc:Scope}{N xs:List Str}(hk:scope.kind=.function)(hsc:X.env.scope=sc)(hN:X.N=N)(h:zNI sc N xs scope=true):BlkOk2 X xs scope:=by
 unfold zNI at h;simp only[Va] at h;obtain⟨⟨⟨⟨h1,h2⟩,h3⟩,h4⟩,h5⟩:=h;subst hN hsc;refine⟨hk,fun y hy e=>?_,fun x hx=>?_,fun y hy e=>?_,fun p hp e=>?_,fun y hy e=>?_⟩
 ·have:=Vl.mp h1 y hy
  rw[e] at this;cases this
 ·exact beq_iff_eq.mp (Vl.mp h2 x hx)
 ·have:=Vl.mp h3 y hy
  rw[e] at this;simpa using this
 ·have:=Vl.mp h4 p hp
  rw[e] at this;have q:X.env.scope.names.lookup p.1=some .cell∨X.env.scope.names.lookup p.1=some .free:=by simpa using this
  exact q
 ·have:=Vl.mp h5 y hy
  rw[e] at this;cases this
theorem uT{sc:Scope}{N:List Str}(W:Good X G k)(hnd:(N++[xa,xb]).Nodup)(hk:scope.kind=.function)(hsc:X.env.scope=sc)(hN:X.N=N)(h:zNI sc N [xa,xb] scope=true)(hi:PId X G (.Tuple [.Name xa pa,.Name xb pb] x1 tp) iter it)
  (hb:∀(C:Addr)(s₂:Shared)(H₂:Hp)(fp:List Addr)(G':Gx),Good (zDE X [xa,xb] scope C s₂ H₂ fp) G' k->PEd (zDE X [xa,xb] scope C s₂ H₂ fp) G' elt f)
  (hs:∀ x,foldedSetIterable iter X.env x=pure x:=by intro _;rfl):PEf X G (.ListComp elt [⟨.Tuple [.Name xa pa,.Name xb pb] x1 tp,iter,[],0⟩] scope pos) (uM it f):=
 zKX ⟨W.calm,W.tb⟩ W.room (zOK hk hsc hN h) (hN ▸ hnd) hi hb hs
end
end L3
namespace L3
open PySem PySem.Spec PyProof.Rows L2
section
variable{prog:Program}{w:World}{A:Around}{E:Value->Shared->Prop}{s:Shared}
end
section
variable{X:Cx}{G:Gx}{fs:Fv}{f:Ev}
unseal PEd PEf PTd PWd PAd PSd fB POd PGd jQ PId PSx nZ PTs PCd PCf
end
end L3
namespace L3
open PySem PySem.Spec PyProof.Rows L2
unseal PEd PEf PTd PWd PAd PSd fB POd PGd jQ PId PSx nZ PTs PCd PCf
section
variable{X:Cx}{G:Gx}{f:Ev}{pos:Pos}
section
variable{o:Expr}{k:Nat}{b:Bool}{p1 p2 p3:Pos}
end
section
variable{i fo:Nat}{x y:Str}{ea eb ec ct o0 o1:Expr}{body rest:List Stmt}{a b:Fv}{cmp:Tv}{sr:Sv}{p1 p2 p3 p4 p5 p6 p7 p8 p9 p10 p11 p12 p13 p14 p15 p16:Pos}{k5 k0 k1:Nat}
end
section
variable{i j1 j2 j3:Nat}{x:Str}{tg ec c1 c2 c3 esl ev o:Expr}{b2 b3:List Stmt}{t1 t2 t3:Tv}{sl:Fv}{g:Ev}{p1 p2 p3 p4 p5 p6 p7 p8 p9:Pos}
end
end
section
variable{prog:Program}{w:World}{A:Around}{E:Value->Shared->Prop}{s:Shared}
theorem zAY{r:Addr}{a b c:Int}{t u v:Tok}{n:Nat}{R:List Value->Shared->Prop}(hh:A.handled=none)(hr:IsRange s.heap r a b c t u v)(hsmall:Builtin.Range.small a b c=true)(hn:Builtin.Range.rangeSize a b c=n)(hlen:n<=2^24)
  (h:∀ h' tk acc,(∀ b o,s.heap.get? b=some o->h'.get? b=some o)->s.heap.objs.size<=h'.objs.size->ItemsOf (fun i v=>∃ t,v=.int (a+i*c) t) acc n->R acc.toList { s with heap:=h',toks:=tk }):
  wpAny (model prog w) A (collect (.ref r)) R E s:=by
 unfold collect;refine wpAny_bind (wpAny_runValue (codeAny_builtin entry_proto_collect' ?_))
 rw[Around.under_plainId PySem.F.plain_proto_collect _];show wpAny _ A.in1 (newList [] >>= fun l=>again (.builtin "list.__iadd__" ⟨[l,.ref r],[]⟩)) _ _ s
 refine wpAny_bind (wpAny_newObj_type ?_)
 refine wpAny_pure ⟨plainId_quiet Yw _,codeAny_builtin entry_list_iadd' ?_⟩
 rw[Around.under_plainId Yw _];have hS₁:(s.heap.push { cls:=.type "list", data:=.seq ([]:List Value).toArray }).get? s.heap.objs.size=some { cls:=.type "list", data:=.seq #[] }:=Heap.get?_push_size _ rfl;show wpAny _ A.in1 (Builtin.List.listExtendWith (.ref s.heap.objs.size) (.ref r) (.ref s.heap.objs.size)) _ _ _
 have key:=wpAny_extend_range (prog:=prog) (w:=w) (A:=A) (s:={ s with heap:=s.heap.push { cls:=.type "list", data:=.seq ([]:List Value).toArray } })
  (R:=fun(q:Result) (s':Shared)=>∃(h':Heap)(tk:Nat)(acc':Array Value)(c':Nat),q=.ok (.ret (.ref s.heap.objs.size))/\s'={ s with heap:=h',toks:=tk }/\
   (∀ b o,s.heap.get? b=some o->h'.get? b=some o)/\h'.get? s.heap.objs.size=some { cls:=.type "list", dict:=none,data:=.seq acc' c',slots:=#[] }/\ItemsOf (fun i v=>∃ t,v=.int (a+i*c) t) acc' n)
  hh (Heap.get?_push_of_some _ hr) hsmall hn hlen s.heap.objs.size (.ref s.heap.objs.size) 0 hS₁
  (fun h' tk acc' c' hk hS' hacc=>⟨h',tk,acc',c',rfl,rfl,fun b o e=>hk b o (Qt (Heap.lt_size e)) (Heap.get?_push_of_some _ e),hS',hacc⟩)
 refine wpAny_mono key (fun fin s' x=>?_) fun e s' x=>?_
 ·cases fin with
  | done f=>
   obtain⟨h',tk,acc',c',e,rfl,hk,hS',hacc⟩:=x;cases e;show wpAny _ A (load s.heap.objs.size >>= _) _ _ _
   refine wpAny_bind (wpAny_load hS' ?_)
   exact wpAny_pure (h h' tk acc' hk (Vo (Heap.lt_size hS')) hacc)
  | again c₁=>
   refine⟨x.1,codeAny_mono x.2 fun q s₂ y=>?_⟩
   obtain⟨h',tk,acc',c',rfl,rfl,hk,hS',hacc⟩:=y;show wpAny _ A (load s.heap.objs.size >>= _) _ _ _
   refine wpAny_bind (wpAny_load hS' ?_)
   exact wpAny_pure (h h' tk acc' hk (Vo (Heap.lt_size hS')) hacc)
 ·obtain⟨_,_,_,_,e',_⟩:=x
  cases e'
end
section
variable{X:Cx}{pins:List (Addr×Obj)}{σ:St}{H:Hp}{s:Shared}{A:Around}{E:Value->Shared->Prop}{a kS:Addr}{vs:List Value}{kz:List Int}{keys:Array Value}{e e1:Nat}{P:PySem.Fin->Shared->Prop}
theorem rG{h':Heap}{tk:Nat}(f:tW X pins H a)(I:Inv X pins σ H s)(sb:Heap.SameBut a s.heap h'):Inv X pins σ H { s with heap:=h',toks:=tk }:=by
 obtain⟨f0,f1,f2,f3,f4,f5⟩:=f;exact I.turned (fun b o hb e=>(sb.2 b hb).trans e) f0 f1 f3 f4 f5
theorem zIF{st:SortSt}(I:Inv X pins σ H s)(fa:tW X pins H a)(fk:tW X pins H kS)(hka:kS≠a)(nk:s.heap.get? kS=some (seqObj "list" keys e))(na:s.heap.get? a=some (seqObj "list" #[] e1))
  (hk:IntsAre keys.toList kz) (hlen:kz.length=vs.length) (h64:vs.length<64) (hp:(arrOf st).Perm (keys.zip vs.toArray)) (hs:SortedTo (arrOf st) (arrOf st).size) (hfl:failedOf st=none)
  (h:∀ s' out c,Inv X pins σ H s'->s'.heap.get? a=some (seqObj "list" out c)->KskOut false kz vs out.toList->P (.done (.ret .none)) s'):
  wpAny (model X.prog X.w) A (ksk_tail a false e1 (.ref kS) st) P E s:=by
 have hsz:keys.size=vs.length:=by
  have h1:=hk.length;rw[VT] at h1;omega
 have hsz2:(arrOf st).size=vs.length:=by rw[hp.size_eq,Array.size_zip,hsz,Qk,Xp]
 have hout:((arrOf st).map (·.2)).size=vs.length:=by rw[Array.size_map];exact hsz2
 have s1:=Heap.SameBut.update s.heap kS (Obj.mapSeq fun _=>(#[]:Array Value))
 have na1:(s.heap.update kS (Obj.mapSeq fun _=>(#[]:Array Value))).get? a=some (seqObj "list" #[] e1):=(s1.2 a hka.symm).trans na
 have s2:=Heap.SameBut.update (s.heap.update kS (Obj.mapSeq fun _=>(#[]:Array Value))) a (Obj.mapSeq fun _=>(arrOf st).map (·.2))
 obtain⟨c2,hc2⟩:∃ c2,((s.heap.update kS (Obj.mapSeq fun _=>(#[]:Array Value))).update a (Obj.mapSeq fun _=>(arrOf st).map (·.2))).get? a=some (seqObj "list" ((arrOf st).map (·.2)) c2):=
  ⟨_,get?_update_seq na1 fun _=>(arrOf st).map (·.2)⟩
 unfold ksk_tail;try dsimp only
 refine wpAny_bind (listUpdate_at nk rfl ?_ (by rw[hsz,sizeLine_eq];omega) (QZ _))
 refine wpAny_bind (wpAny_letGo ?_)
 refine wpAny_bind (seqEpoch_at na1 rfl ?_)
 refine wpAny_bind (listUpdate_at na1 rfl ?_ (QZ _) (by simp only[VQ,if_false];exact QD (X2 hout) (by rw[sizeLine_eq];omega)))
 rw[hfl];simp only[bne_self_eq_false,VQ,if_false];have I1:Inv X pins σ H { s with heap:=s.heap.update kS (Obj.mapSeq fun _=>(#[]:Array Value)) }:=rG fk (tk:=s.toks) I s1
 have I2:Inv X pins σ H { s with heap:=(s.heap.update kS (Obj.mapSeq fun _=>(#[]:Array Value))).update a (Obj.mapSeq fun _=>(arrOf st).map (·.2)) }:=(by have z:=rG (tk:=s.toks) fa I1 s2;exact z)
 exact wpAny_pure (h _ _ c2 I2 hc2 (ksk_out (b:=false) hk hp hs))
theorem zQR(I:Inv X pins σ H s)(fa:tW X pins H a)(fk:tW X pins H kS)(hka:kS≠a)(nk:s.heap.get? kS=some (seqObj "list" keys e))(na:s.heap.get? a=some (seqObj "list" #[] e1))
  (hk:IntsAre keys.toList kz) (hlen:kz.length=vs.length) (h64:vs.length<64)
  (h:∀ s' out c,Inv X pins σ H s'->s'.heap.get? a=some (seqObj "list" out c)->KskOut false kz vs out.toList->P (.done (.ret .none)) s'):
  wpAny (model X.prog X.w) A (ksk_end a false vs.toArray e1 (.ref kS) keys) P E s:=by
 have hsz:keys.size=vs.length:=by
  have h1:=hk.length;rw[VT] at h1;omega
 have hzs:(keys.zip vs.toArray).size=vs.length:=by rw[Array.size_zip,hsz,Qk,Xp]
 unfold ksk_end;try dsimp only
 simp only[VQ,if_false];by_cases h2:vs.toArray.size<2
 ·rw[if_pos h2,if_pos h2]
  refine wpAny_bind (wpAny_pure ?_)
  rw[StateT.run_pure];refine wpAny_bind (wpAny_pure ?_)
  try dsimp only
  refine zIF (st:=SortSt.mk' general' (keys.zip vs.toArray) #[] 7 none) I fa fk hka nk na hk hlen h64 (Array.Perm.refl _) ?_ rfl h
  intro i j hij hj;have hj2:j<(keys.zip vs.toArray).size:=hj;rw[hzs] at hj2;rw[Qk] at h2;have:i=j:=by omega
  subst this;exact V7 _
 ·rw[if_neg h2,if_neg h2]
  rw[Qk] at h2;rw[ksk_kind hk (by rw[hsz];omega)];refine wpAny_bind (wpAny_pure ?_)
  refine wpAny_bind (wpAny_mono (wpS_sortRuns (a₀:=keys.zip vs.toArray) (st:=SortSt.mk' oneType' (keys.zip vs.toArray) #[] 7 none)
   (Q:=fun _ st'=>(arrOf st').Perm (keys.zip vs.toArray)/\failedOf st'=none/\SortedTo (arrOf st') (keys.zip vs.toArray).size)
   (ksk_intKeys hk) ⟨Array.Perm.refl _,rfl,rfl,rfl⟩ (by rw[hzs];omega) (by rw[hzs];exact h64) fun st' a1 a2 a3=>⟨a1,a2,a3⟩) ?_ fun _ _ e=>e)
  rintro⟨⟨⟩,st'⟩ s' ⟨rfl,hp,hf,hs⟩
  try dsimp only
  exact zIF I fa fk hka nk na hk hlen h64 hp (by rw[hp.size_eq];exact hs) hf h
theorem zOv{f:Value}{e0:Nat}(I:Inv X pins σ H s)(fa:tW X pins H a)(fk:tW X pins H kS)(hka:kS≠a)(nk:s.heap.get? kS=some (seqObj "list" #[] e0))(na:s.heap.get? a=some (seqObj "list" #[] e1))
  (hlen:kz.length=vs.length) (h64:vs.length<64)
  (turn:∀(i:Nat)(v:Value)(k:Int),vs[i]?=some v->kz[i]?=some k->∀(s':Shared)(pl:List (Addr×Obj)),Inv X (pins++pl) σ H s'->
   wpAny (model X.prog X.w) A (call f [v]) (fun u s''=>(∃ t,u=.int k t)/\Inv X (pins++pl) σ H s'') (fun _ _=>False) s')
  (h:∀ s' out c,Inv X pins σ H s'->s'.heap.get? a=some (seqObj "list" out c)->KskOut false kz vs out.toList->P (.done (.ret .none)) s'):
  wpAny (model X.prog X.w) A (ksk_rest a f false vs.toArray e1 (.ref kS)) P E s:=by
 unfold ksk_rest;refine wpAny_bind (wpAny_rule ?_)
 first
  | rw[List.forIn_toArray]
  | (rw[<-Array.forIn_toList];simp only[Yy])
  | rw[<-Array.forIn_toList]
 refine wpAny_bind (ksk_fold (fun i s'=>∃ kA e,Inv X pins σ H s'/\s'.heap.get? kS=some (seqObj "list" kA e)/\s'.heap.get? a=some (seqObj "list" #[] e1)/\IntsAre kA.toList (kz.take i)) vs 0 s
  ⟨#[],e0,I,nk,na,by simpa using IntsAre.nil⟩ ?step ?done)
 case step=>
  rintro j x s' hx ⟨kA,e,I',nk',na',hk⟩
  simp only[VB] at hk ⊢
  have hj:j<vs.length:=(QC.mp hx).1;obtain⟨k,hkj⟩:∃ k,kz[j]?=some k:=⟨_,Ql (by omega)⟩
  have hz:kA.size<=vs.length:=by
   have h1:=hk.length;rw[VT,VH] at h1;omega
  have pin:∀ b∈[kS,a],∃ o,s'.heap.get? b=some o/\∀ v,o.data≠.cell v:=fun b hb=>by
   rcases Qd.mp hb with rfl | hb
   ·exact⟨_,nk',fun v z=>by have z':Data.seq _ _=Data.cell v:=z;cases z'⟩
   ·rw[Qu.mp hb];exact⟨_,na',fun v z=>by have z':Data.seq _ _=Data.cell v:=z;cases z'⟩
  have Ip:Inv X (pins++vJ [kS,a] s'.heap) σ H s':=I'.pinned (fun b hb=>by
   rcases Qd.mp hb with rfl | hb
   ·exact fk
   ·rw[Qu.mp hb];exact fa) pin
  refine wpAny_bind (wpAny_attempt (wpAny_mono (turn j x k hx hkj s' _ Ip) (fun v s'' he=>?_) fun _ _ hF=>hF.elim))
  obtain⟨⟨t2,rfl⟩,I2p⟩:=he;try dsimp only
  have nk2:s''.heap.get? kS=some (seqObj "list" kA e):=(I2p.pin _ (Qz _ (Qz _ (fP (b:=kS) (by simp) nk')))).1
  have na2:s''.heap.get? a=some (seqObj "list" #[] e1):=(I2p.pin _ (Qz _ (Qz _ (fP (b:=a) (by simp) na')))).1
  have I2:Inv X pins σ H s'':=I2p.unpinned;have s1:=Heap.SameBut.update s''.heap kS (Obj.mapSeq (·.push (.int k t2)));obtain⟨c2,hc2⟩:∃ c2,(s''.heap.update kS (Obj.mapSeq (·.push (.int k t2)))).get? kS=some (seqObj "list" (kA.push (.int k t2)) c2):=⟨_,get?_update_seq nk2 (·.push (.int k t2))⟩;have ek:kz.take (j+1)=kz.take j++[k]:=by rw[List.take_add_one,hkj];simp
  have ea:(kA.push (Value.int k t2)).toList=kA.toList++[Value.int k t2]:=by simp
  refine wpAny_bind (listUpdate_at nk2 rfl ?_ (by rw[sizeLine_eq];omega) (QD (X2 (Array.size_push ..)) (by rw[sizeLine_eq];omega)))
  exact wpAny_pure ⟨rfl,kA.push (.int k t2),c2,rG fk (tk:=s''.toks) I2 s1,hc2,(s1.2 a hka.symm).trans na2,by rw[ea,ek];exact ksk_snoc hk⟩
 case done=>
  rintro s' ⟨kA,e,I',nk',na',hk⟩
  have hk':IntsAre kA.toList kz:=by
   have e3:kz.take (0+vs.length)=kz:=VY (by omega)
   rw[e3] at hk;exact hk
  try dsimp only
  refine wpAny_bind (listItems_at nk' rfl ?_)
  exact zQR I' fa fk hka nk' na' hk' hlen h64 h
def vE(v:Value):Nat:=(numOf v).toNat
theorem zNM{out:List Value}(hlen:kz.length=vs.length)(hv:∀ (j:Nat) (v:Value),vs[j]?=some v->∃ t,v=.int j t)(h:KskOut false kz vs out):hZ kz (out.map vE)/\dW ((out.map vE).map fun i:Nat=>V.int (i:Int)) out:=by
 obtain⟨ps,hp,ho,hs⟩:=h
 have at':∀ p,p∈kz.zip vs->∃(j:Nat)(t:Tok),p.2=.int j t/\kz[j]?=some p.1:=fun p hm=>by
  obtain⟨j,hj,e⟩:=List.mem_iff_getElem.mp hm;rw[X3] at hj;rw[List.getElem_zip] at e;obtain⟨t,ht⟩:=hv j (vs[j]'(by omega)) (Ql _)
  refine⟨j,t,by rw[<-e];exact ht,by rw[<-e];exact Ql _⟩
 have n1:∀(j:Nat)(t:Tok),vE (.int j t)=j:=fun j t=>by unfold vE;show(Int.toNat (j:Int))=j;rfl
 have hvs:vs.map vE=List.range kz.length:=by
  refine V5 fun j=>?_
  rw[Qr];by_cases hj:j<vs.length
  ·obtain⟨t,ht⟩:=hv j _ (Ql hj)
   rw[Ql hj,ht,Vd (by omega)];show some (vE _)=_
   rw[n1]
  ·rw[QA (by omega),QA (by rw[Qy];omega)];rfl
 subst ho;refine⟨⟨?_,?_⟩,?_⟩
 ·have h1:((ps.map Prod.snd).map vE).Perm (((kz.zip vs).map Prod.snd).map vE):=(hp.map _).map _
  rw[List.map_snd_zip (by omega),hvs] at h1;exact h1
 ·rw[Qv,VD]
  refine VZ (fun {p q} hm hq hr=>?_) hs
  have hr':p.1<=q.1:=by simpa using hr
  obtain⟨i,t,e1,e2⟩:=at' p (hp.mem_iff.mp hm);obtain⟨j,u,e3,e4⟩:=at' q (hp.mem_iff.mp hq);show kz.getD (vE p.2) 0<=kz.getD (vE q.2) 0
  rw[e1,e3,n1,n1,Qx,Qx,e2,e4];exact hr'
 ·have go:∀ l:List Value,(∀ v∈l,∃(j:Nat)(t:Tok),v=.int j t)->dW ((l.map vE).map fun i:Nat=>V.int (i:Int)) l:=by
   intro l
   induction l with
   | nil=>intro _;exact .nil
   | cons v r ih=>
    intro hl;obtain⟨j,t,rfl⟩:=hl v (.head _);exact .cons ⟨t,by rw[n1]⟩ (ih fun u hu=>hl u (.tail _ hu))
  refine go _ fun v hv'=>?_
  obtain⟨p,hm,rfl⟩:=Qo.mp hv';obtain⟨j,t,e1,_⟩:=at' p (hp.mem_iff.mp hm);exact⟨j,t,e1⟩
theorem zIe{r q:Addr}{n:Nat}{t u v:Tok}{Q:Value->Shared->Prop}(hc:X.calm=true)(I:Inv X pins σ H s)(hr:IsRange s.heap r 0 n 1 t u v)(h64:n<64)(hkz:kz.length=n)
  (turn:∀(j:Nat)(tk:Tok)(k:Int),kz[j]?=some k->∀(s':Shared)(pl:List (Addr×Obj)),Inv X (pins++pl) σ H s'->
   wpAny (model X.prog X.w) X.A.in1.in1 (call (.ref q) [.int j tk]) (fun u s''=>(∃ t,u=.int k t)/\Inv X (pins++pl) σ H s'') (fun _ _=>False) s')
  (h:∀ D s' out c π,Inv X pins σ H s'->tW X pins H D->s.heap.objs.size<=D->s'.heap.get? D=some (seqObj "list" out c)->hZ kz π->dW (π.map fun i:Nat=>V.int (i:Int)) out.toList->Q (.ref D) s'):
  wpAny (model X.prog X.w) X.A (call (.builtin "sorted") [.ref r] [(Str.ofString "key", .ref q)]) Q E s:=by
 refine call_function_entry_kw kind_sorted plain_sorted entry_sorted (ksk_s1 _ _) ?_
 unfold Builtin.«sorted»
 refine wpAny_bind (m:=checkCount "sorted" 1 1 _) (wpAny_pure ?_)
 refine wpAny_bind (zAY (n:=n) (A:=X.A.in1) (I.ok.hd hc) hr (small_one (by omega) (by omega) (by omega) (by omega)) (by rw[rangeSize_one];split<;>omega) (by omega) fun h1 tk acc hk hsz hacc=>?_)
 have hl:acc.toList.length=n:=by rw[VT];exact hacc.1
 refine wpAny_bind (wpAny_newList ?_ (by rw[hl,sizeLine_eq];omega))
 have I1:Inv X pins σ H { s with heap:=h1,toks:=tk }:=I.kept hk;have fa:tW X pins H h1.objs.size:=I1.fpOk (Qg _) (I1.hok.fresh (Qg _));have I2:Inv X pins σ H { s with heap:=h1.push (seqObj "list" acc.toList.toArray 0),toks:=tk }:=I1.kept (t':=tk) fun b o e=>Heap.get?_push_of_some _ e
 have hoL:(h1.push (seqObj "list" acc.toList.toArray 0)).get? h1.objs.size=some (seqObj "list" acc.toList.toArray 0):=Heap.get?_push_size _ rfl;show wpAny _ _ _ _ _ { s with heap:=h1.push (seqObj "list" acc.toList.toArray 0),toks:=tk }
 refine wpAny_bind (wpAny_holding (wpAny_call_entry_kw slot_list_sort ⟨_,hoL,rfl⟩ entry_list_sort ?body (ksk_l1 _ _)))
 case body=>
  show wpAny (model X.prog X.w) X.A.in1.in1 (Builtin.«list.sort» ⟨[.ref h1.objs.size],[(Str.ofString "key", .ref q)]⟩) _ _ _
  rw[ksk_t1];have s3:=Heap.SameBut.update (h1.push (seqObj "list" acc.toList.toArray 0)) h1.objs.size (Obj.mapSeq fun _=>(#[]:Array Value))
  obtain⟨e1,ho1⟩:∃ e1,((h1.push (seqObj "list" acc.toList.toArray 0)).update h1.objs.size (Obj.mapSeq fun _=>(#[]:Array Value))).get? h1.objs.size=some (seqObj "list" #[] e1):=⟨_,get?_update_seq hoL fun _=>#[]⟩
  have I3:Inv X pins σ H { s with heap:=(h1.push (seqObj "list" acc.toList.toArray 0)).update h1.objs.size (Obj.mapSeq fun _=>(#[]:Array Value)),toks:=tk }:=(by have z:=rG (tk:=tk) fa I2 s3;exact z)
  generalize hg3:(h1.push (seqObj "list" acc.toList.toArray 0)).update h1.objs.size (Obj.mapSeq fun _=>(#[]:Array Value))=h3 at s3 ho1 I3
  unfold ksk_tree;refine wpAny_bind (listItems_at hoL rfl ?_)
  refine wpAny_bind (listUpdate_at hoL rfl ?_ (by rw[Qk,sizeLine_eq];omega) (QZ _))
  show wpAny _ _ _ _ _ { s with heap:=(h1.push (seqObj "list" acc.toList.toArray 0)).update h1.objs.size (Obj.mapSeq fun _=>(#[]:Array Value)),toks:=tk }
  rw[hg3];refine wpAny_bind (seqEpoch_at ho1 rfl ?_)
  refine wpAny_bind (wpAny_newTuple ?_ (by show acc.toList.toArray.toList.length<=_;rw[sizeLine_eq,Yy];omega))
  refine wpAny_bind (wpAny_newList ?_ (QZ _))
  refine wpAny_holding ?_
  have I4:Inv X pins σ H { s with heap:=h3.push (seqObj "tuple" acc.toList.toArray 0),toks:=tk }:=I3.kept (t':=tk) fun b o e=>Heap.get?_push_of_some _ e
  have fk:tW X pins H (h3.push (seqObj "tuple" acc.toList.toArray 0)).objs.size:=I4.fpOk (Qg _) (I4.hok.fresh (Qg _));have I5:Inv X pins σ H { s with heap:=(h3.push (seqObj "tuple" acc.toList.toArray 0)).push (seqObj "list" #[] 0),toks:=tk }:=I4.kept (t':=tk) fun b o e=>Heap.get?_push_of_some _ e
  have ho4:(h3.push (seqObj "tuple" acc.toList.toArray 0)).get? h1.objs.size=some (seqObj "list" #[] e1):=Heap.get?_push_of_some _ ho1;refine zOv (vs:=acc.toList) (kz:=kz) (e0:=0) I5 fa fk (Xk (Heap.lt_size ho4)) (Heap.get?_push_size _ rfl) (Heap.get?_push_of_some _ ho4) (by rw[hkz,hl]) (by rw[hl];exact h64) (fun i v' k hi hk' s' pl Ip=>?_) fun s' out c I' ho' ko=>?_
  ·obtain⟨tk',rfl⟩:=hacc.2 i v' (by rw[<-XF];exact hi)
   have e3:(0:Int)+(i:Int)*1=(i:Int):=by omega
   rw[e3];exact turn i tk' k hk' s' pl Ip
  ·obtain⟨hπ,hV⟩:=zNM (by rw[hkz,hl]) (fun j v' hj=>by
    obtain⟨tk',rfl⟩:=hacc.2 j v' (by rw[<-XF];exact hj)
    exact⟨tk',by congr 1;omega⟩) ko
   exact⟨_,rfl,wpAny_pure ⟨_,rfl,h _ s' out c _ I' fa hsz ho' hπ hV⟩⟩
end
end L3
namespace L3
open PySem PySem.Spec PyProof.Rows L2 PySem.W
unseal PEd PEf PTd PWd PAd PSd fB POd PGd jQ PId PSx nZ PTs PCd PCf
def zTf:CXT:=fun _ _ _ _ _ _=>False
def cxL(P:Program)(w:World)(K:PySem.W.Frag)(mg:Str->Option Value)(base:Heap)(N:List Str)(qual:Str)(scope:Scope)(f:Addr)(cd:Value)(cl:List (Str×Addr))(A:Around)(outer:List Env)(s:Shared)(H:Hp):Cx where
 prog:=P
 w:=w
 K:=K
 mg:=mg
 base:=base
 A:=A.deeper (envX qual scope s.heap.objs.size f cd cl)
 N:=N
 s₀:=s
 H₀:=H
 env:=envX qual scope s.heap.objs.size f cd cl
 outer:=outer
 stack:=envX qual scope s.heap.objs.size f cd cl::outer
 ex:=[]
 fn:=fun _=>false
 calm:=true
 pn:=[]
 xe:=fun _ _=>False
theorem zNW{P:Program}{w:World}{K:Fg_}{mg:Str->Option Value}{base:Heap}{N:List Str}{qual name:Str}{scope:Scope}{f c':Addr}{cl:List (Str×Addr)}{A:Around}{outer:List Env}{s:Shared}{H:Hp}{params:Arguments}{body:Expr}{pm ctv u:Value}{p:Str}{σ:St}{Q:VK}{E:XK}{t:TE}
  (hd:A.handled=none) (hdp:A.depth<recursionLimit) (e0:Env0 P w K mg base A outer s H) (ho:s.heap.get? f=some (kla_obj name qual params body scope cl pm c' ctv)) (hcd:s.heap.CodeRec (.ref c') qual)
  (hbind:bindArgs (kla_fn name qual params body scope cl pm (.ref c') ctv) ⟨[u],[]⟩=pure [(p,u)]) (hloc:scope.names.lookup p=some .local)
  (hco:scope.isCoroutine=false) (hgen:scope.isGenerator=false) (hk:scope.kind=.function) (hcell:∀ x∈scope.names,x.2≠.cell)
  (hfree:∀ x,scope.names.lookup x=some .free->∃ c,cl.lookup x=some c) (hinj:∀ x y c,cl.lookup x=some c->cl.lookup y=some c->x=y)
  (hcl:∀ x c,cl.lookup x=some c->(∃ v,s.heap.IsCell c v)/\H c=none) (hlen:σ.length=N.length)
  (hσ:∀(i:Nat)(x:Str)(v:V),N[i]?=some x->σ[i]?=some (some v)->(x=p/\dI v u)∨(scope.names.lookup x=some .free/\∃ c u',cl.lookup x=some c/\s.heap.IsCell c (some u')/\dI v u'))
  (hb:PE (cxL P w K mg base N qual scope f (.ref c') cl A outer s H) body t) (hq:t σ H Q):
  codeAny (model P w) A (.call (.ref f) ⟨[u],[]⟩) (CR zTf outer P w H s Q E) s:=by
 have lim:s.heap.NoLimit:=e0.mod.nolimit.keeps fun b o e=>(e0.bs b o e).1
 refine kla_callFunE hdp ho rfl hco hgen rfl hcd ?_
 rw[hbind];refine wpAny_pure (wpAny_newFunctionEnv hcell (fun y hy=>by rw[Qu.mp hy];exact hloc) (fun h₁ hns hsb=>⟨lim.fresh _ hsb,?_⟩) hk)
 have hk₁:∀ b o,s.heap.get? b=some o->h₁.get? b=some o:=fun b o e=>hsb.extBut b o (Qt (Heap.lt_size e)) (Heap.get?_push_of_some _ e)
 have noA:∀ b:Addr,b∉(cxL P w K mg base N qual scope f (.ref c') cl A outer s H).ex:=fun b z=>absurd (show b∈([]:List Addr) from z) (by simp)
 have I:Inv (cxL P w K mg base N qual scope f (.ref c') cl A outer s H) [] σ H { s with heap:=h₁,toks:=s.toks+1 }:=by
  refine⟨⟨e0.mod,hk,rfl,rfl,Qg _,hinj,fun y hy=>?_,fun y c z _=>?_,fun _=>hd,Around.frames_deeper e0.frames,.inr ⟨rfl,rfl⟩,fun b z=>absurd z (noA b),e0.bs,e0.bsz,fun b _ _=>noA b,fun b z=>absurd z (noA b),e0.funs,e0.frf⟩,
   rfl,e0.bare,Un.kept hk₁,⟨_,hns,fun i y v h1 h2 h3=>?_⟩,fun y c h=>?_,e0.hok.fresh (Qg _),fun y c h=>(hcl y c h).2,fun p hp=>absurd (show p∈([]:List (Addr×Obj)) from hp) (by simp),e0.hok.kept hk₁,hlen⟩
  ·have hy:scope.names.lookup y=some .cell∨scope.names.lookup y=some .free:=hy
   rcases hy with hy | hy
   ·exact absurd rfl (hcell _ (Vy hy))
   ·exact hfree y hy
  ·cases z
  ·rcases hσ i y v h1 h2 with⟨rfl,r⟩ | ⟨hf,c,u',h4,⟨o,h5,h6⟩,r⟩
   ·exact⟨u,r,.inl ⟨hloc,by simp[List.lookup]⟩⟩
   ·exact⟨u',r,.inr ⟨.inr hf,c,h4,o,hk₁ _ _ h5,h6⟩⟩
  ·obtain⟨⟨v,o,h5,h6⟩,_⟩:=hcl y c h
   exact⟨v,o,hk₁ _ _ h5,h6⟩
 refine kla_codeExpr (wpAny_mono (hb [] _ σ H Q I hq) (fun v s' z=>?_) fun e s' z=>False.elim z)
 obtain⟨x,H',J,r,q⟩:=z;exact⟨x,H',J.os,J.bare,J.base,J.hok,r,q⟩
theorem zKQ{l:List Value}{a b:Int}{c:Value}(h:TriplesOk l):TriplesOk (l++[rawInt a,rawInt b,c]):=TriplesOk_snoc a b c l h
theorem zGU{pos q:Pos}{c x:Value}(l:List Value)(h:TriplesOk l)(e:codeAmong q (l++[rawInt pos.line,rawInt pos.col,c])=some x):codeAmong q l=some x∨x=c:=by
 fun_induction TriplesOk l with
 | case1=>
  simp only[VA,codeAmong,rawInt] at e;split at e
  ·exact .inr (QP e).symm
  ·cases e
 | case2 a t b u y rest ih=>
  simp only[Xr,codeAmong] at e ⊢
  split at e
  ·rename_i hc;rw[if_pos hc];exact .inl e
  ·rename_i hc;rw[if_neg hc];exact ih h e
 | case3 l h1 h2=>exact h.elim
def BMn(base:Heap)(mg:Str->Option Value):Prop:=∃ bm ob,mg "__builtins__" = some (.ref bm)/\bm≠builtinsNs/\base.get? bm=some ob/\ob.cls=.type "module" /\ ob.dict=some builtinsNs/\ob.data=.plain
section
variable{X:Cx}{pins:List (Addr×Obj)}{σ:St}{H:Hp}{s:Shared}{P c c':Addr}
theorem zKv{ps more:Array Value}{h':Heap}{tk:Nat}{oc:Obj}(I:Inv X pins σ H s)(hP:H P=some (.tbl ps))(hx:Heap.ExtBut P s.heap h')(hge:s.heap.objs.size<=c')(hc:h'.get? c'=some oc)(hP':h'.get? P=some { cls:=.none,data:=.fields (ps++more) }):
  Inv X pins σ (upd (upd H P (.tbl (ps++more))) c' (.frz oc (.own 0))) { s with heap:=h',toks:=tk }:=by
 have nP:∀ {b:Addr},H b=none->b≠P:=fun e z=>by rw[z,hP] at e;cases e
 have cF:H c'=none:=I.hok.fresh hge;have nc:∀ {b:Addr} {o:Obj},s.heap.get? b=some o->b≠c':=fun e=>Qt (Qp (Heap.lt_size e) hge)
 have hPc:P≠c':=bD hP cF;have up:∀ {b:Addr},b≠P->b≠c'->upd (upd H P (.tbl (ps++more))) c' (.frz oc (.own 0)) b=H b:=fun h1 h2=>by rw[bA h2,bA h1]
 have upP:upd (upd H P (.tbl (ps++more))) c' (.frz oc (.own 0)) P=some (.tbl (ps++more)):=by rw[bA hPc,aY]
 have kd:∀ {b:Addr} {o:HO},H b=some o->(∀ qs,o≠.tbl qs)->upd (upd H P (.tbl (ps++more))) c' (.frz oc (.own 0)) b=some o:=fun {b o} e hn=>by
  rw[up (fun z=>by rw[z,hP] at e;exact hn ps (QP e).symm) (bD e cF)];exact e
 refine I.un ⟨fun b o e n _ _=>hx b o (nP n) e,fun b o e n _ _=>⟨o.slots,hx b o (nP n) e⟩,fun b o e n _=>by rw[up (nP n) (nc e)];exact n,fun b o e _=>?_,fun b xs e=>kd e fun qs z=>(by cases z),fun b o u e=>kd e fun qs z=>(by cases z),fun b qs e=>?_⟩ fun b u e=>?_
 ·by_cases hb:b=P
  ·subst hb;exact⟨_,hP'⟩
  ·exact⟨o,hx b o hb e⟩
 ·by_cases hb:b=P
  ·subst hb
   rw[hP] at e;cases e
   exact⟨more,upP⟩
  ·exact⟨#[],by rw[up hb (bD e cF),e];simp⟩
 ·by_cases h2:b=c'
  ·subst h2
   rw[aY] at e;cases e
   exact⟨hc,oc,hc⟩
  ·by_cases h1:b=P
   ·subst h1
    rw[upP] at e;cases e
    exact hP'
   ·rw[up h1 h2] at e
    refine(I.hok b u e).stay (fun d v hd q=>hx d v (fun z=>?_) q) (fun d q=>kd q fun qs z=>(by cases z)) fun d xs q=>kd q fun qs z=>(by cases z)
    rcases hd with rfl | hd
    ·exact h1 z
    ·rw[z,hP] at hd;cases hd
theorem zIX{ps:Array Value}{oc:Obj}{pos:Pos}{vs:Array Value}{t:Tok}(hP:H P=some (.tbl ps))(cF:H c'=none)(hd:oc.data=.fields vs)(hv:vs[1]?=some (.str tQ t)):
  Keep H (upd (upd H P (.tbl (ps++#[rawInt pos.line,rawInt pos.col,.ref c']))) c' (.frz oc (.own 0))):=by
 have hPc:P≠c':=bD hP cF;have upP:upd (upd H P (.tbl (ps++#[rawInt pos.line,rawInt pos.col,.ref c']))) c' (.frz oc (.own 0)) P=some (.tbl (ps++#[rawInt pos.line,rawInt pos.col,.ref c'])):=by rw[bA hPc,aY]
 have kd:∀ {b:Addr} {o:HO},H b=some o->b≠P->upd (upd H P (.tbl (ps++#[rawInt pos.line,rawInt pos.col,.ref c']))) c' (.frz oc (.own 0)) b=some o:=fun {b o} e hn=>by
  rw[bA (bD e cF),bA hn];exact e
 refine⟨fun b o e=>?_,fun Q T=>?_⟩
 ·by_cases hb:b=P
  ·subst hb
   rw[hP] at e;cases e
   exact .inr ⟨_,_,rfl,upP⟩
  ·exact .inl (kd e hb)
 ·obtain⟨qs,e,ht,k⟩:=T
  have old:∀(q:Pos)(cv:Value),codeAmong q qs.toList=some cv->∃ c oc' vs t u,cv=.ref c/\upd (upd H P (.tbl (ps++#[rawInt pos.line,rawInt pos.col,.ref c']))) c' (.frz oc (.own 0)) c=some (.frz oc' u)/\oc'.data=.fields vs/\vs[1]?=some (.str tQ t):=fun q cv z=>by
   obtain⟨c,oc',vs',t',u,r1,r2,r3⟩:=k q cv z;exact⟨c,oc',vs',t',u,r1,kd r2 (fun w=>by rw[w,hP] at r2;cases r2),r3⟩
  by_cases hb:Q=P
  ·subst hb
   rw[hP] at e;cases e
   have el:(ps++#[rawInt pos.line,rawInt pos.col,.ref c']).toList=ps.toList++[rawInt pos.line,rawInt pos.col,.ref c']:=by simp
   refine⟨_,upP,by rw[el];exact zKQ ht,fun q cv z=>?_⟩
   rw[el] at z;rcases zGU _ ht z with z | z
   ·exact old q cv z
   ·exact⟨c',oc,vs,t,_,z,aY,hd,hv⟩
  ·exact⟨qs,kd e hb,ht,old⟩
theorem zKw{params:Arguments}{body:Expr}{scope:Scope}{pos:Pos}{clos:List (Str×Addr)}{M:Model}{A:Around}{E:Value->Shared->Prop}{Q:Value->Shared->Prop}(I:Inv X pins σ H s)(tb:zCy P H)(hC:∀ h,X.K.In h->CodeHd h c P)(hcode:X.env.code=.ref c)(hq:X.env.qual ++ "<lambda>" = tQ)(hB:BMn X.base X.mg)
  (hcl:closureFor scope X.env=pure clos) (hdef:defaultsOf params X.env=([],[]))
  (h:∀ f c' ctv oc vs t u H' s',Inv X pins σ H' s'->Keep H H'->(∀ b o,H b=some o->b≠P->H' b=some o)->tW X pins H' f->s.heap.objs.size<=f->s'.heap.get? f=some (kla_obj "<lambda>" tQ params body scope clos ((X.mg "__name__").getD .none) c' ctv)->
   H' c'=some (.frz oc u)->oc.data=.fields vs->vs[1]?=some (.str tQ t)->Q (.ref f) s'):
  wpAny M A (eval (.Lambda params body scope pos) X.env) Q E s:=by
 obtain⟨ps,hP,ht,hk⟩:=id tb;have hPo:s.heap.get? P=some (tabObj ps):=I.hok P _ hP;have hg:s.heap.Ns mainGlobals X.mg:=I.mod.glob.keeps I.bk
 have hgP:mainGlobals≠P:=fun z=>by
  obtain⟨o,es,ep,e,_⟩:=I.mod.glob;have:=(I.bs _ _ e).2
  rw[z,hP] at this;cases this
 have hb:s.heap.BuiltinsAt X.mg P:=by
  obtain⟨bm,ob,b1,b2,b3,b4,b5,b6⟩:=hB;refine⟨bm,ob,b1,b2,fun z=>?_,fun z=>?_,(I.bs _ _ b3).1,b4,b5,b6⟩
  ·obtain⟨o,es,ep,e,d,_⟩:=I.mod.glob
   rw[z,e] at b3;cases b3;rw[d] at b6;cases b6
  ·have:=(I.bs _ _ b3).2
   rw[z,hP] at this;cases this
 refine kla_eval hdef ?_
 rw[hq]
 cases hf:codeAmong pos ps.toList with
 | some cv=>
  obtain⟨c',oc,vs,t,u,rfl,r1,r2,r3⟩:=hk pos cv hf;refine kla_makeFunctionHit hcl I.ok.glob hg hcode (hC _ I.kIn) hPo ht hf hb fun ctv h' tk hkk hsz=>?_
  have I1:Inv X pins σ H { s with heap:=h',toks:=tk }:=I.kept hkk;have I2:Inv X pins σ H { s with heap:=h'.push (kla_obj "<lambda>" tQ params body scope clos ((X.mg "__name__").getD .none) c' ctv),toks:=tk }:=I1.kept (t':=tk) fun b o e=>Heap.get?_push_of_some _ e
  exact h _ c' ctv oc vs t u H _ I2 (Keep.refl _) (fun b o e _=>e) (I1.fpOk (Qg _) (I1.hok.fresh (Qg _))) hsz (Heap.get?_push_size _ rfl) r1 r2 r3
 | none=>
  refine kla_makeFunction hcl I.ok.glob hg hcode (hC _ I.kIn) hPo ht hf hgP hb fun c' ctv h' tk hx hge hlt hrec htb=>?_
  obtain⟨c₂,oc,vs,t,e2,hoc,hd,hv⟩:=hrec;cases e2;have I1:=zKv (tk:=tk) I hP hx hge hoc htb;have I2:=I1.kept (t':=tk) (h':=h'.push (kla_obj "<lambda>" tQ params body scope clos ((X.mg "__name__").getD .none) c' ctv)) fun b o e=>Heap.get?_push_of_some _ e
  have cF:H c'=none:=I.hok.fresh hge;exact h _ c' ctv oc vs t _ _ _ I2 (zIX hP cF hd hv) (fun b o e hb=>by rw[bA (bD e cF),bA hb];exact e) (I1.fpOk (Qg _) (I1.hok.fresh (Qg _))) (Vo (Vq hge hlt)) (Heap.get?_push_size _ rfl) aY hd hv
end
theorem zCQ{K:Fg_}{H:Hp}:∀ π:List Nat,IsDs K H (π.map fun i:Nat=>V.int (i:Int)) (kO π)
 | []=>.nil
 | n::ns=>.cons (.int n) (zCQ ns)
def zEe(p:Pos):Arguments:={ posonlyargs:=[],args:=[{ arg := "spot", annotation:=none,pos:=p }],vararg:=none,kwonlyargs:=[],kw_defaults:=[],kwarg:=none,defaults:=[] }
def lT:Scope:={ kind:=.function,names:=[(PySem.Str.ofString "spot", .local),(PySem.Str.ofString "bottom", .free),(PySem.Str.ofString "some", .free)],isGenerator:=false,isCoroutine:=false,more:=[] }
section
variable{X:Cx}{p1 p2 p3 p4 p5 p6 p7 p8 p9 pa pb pc pd pe pf pg ph pi pj:Pos}
theorem zLm{b k:Int}{a:Addr}{xs:List V}{rows:List D}{d:D}{j:Nat}{Hi H:Hp}{Q:VK}{σ:St}(hN:X.N=(["spot","some","bottom"]:List Str))(hsc:X.env.scope=lT){pz:Pos}
  (hσ:σ=[some (.int j),some (.ref a),some (.int b)]) (hq:SqL X.K Hi a xs∨SqT X.K Hi a xs) (hs:IsDs X.K Hi xs rows) (sm:Same Hi H) (hd:rows[j]?=some d) (hk:zKf b d=.ok k) (q:Q (.int k) H):
  ∃ t,PE X (.BinOp (.Subscript (.Subscript (.Name "some" p1) (.Name "spot" p2) p3) (.Constant (.int 0) 0 p4) p5) .Mult
   (.BinOp (.Name "bottom" p6) .FloorDiv (.Subscript (.Subscript (.Name "some" p7) (.Name "spot" p8) p9) (.Constant (.int 1) 0 pa) pb) pc) pz) t/\t σ H Q:=by
 have v0:PE X (.Name "spot" p2) (zFO 0):=vT (by rw[hN];rfl) (by rw[hsc];exact .inl (by decide +kernel))
 have v0':PE X (.Name "spot" p8) (zFO 0):=vT (by rw[hN];rfl) (by rw[hsc];exact .inl (by decide +kernel))
 have v1:PE X (.Name "some" p1) (zFO 1):=vT (by rw[hN];rfl) (by rw[hsc];exact .inr (.inr (by decide +kernel)))
 have v1':PE X (.Name "some" p7) (zFO 1):=vT (by rw[hN];rfl) (by rw[hsc];exact .inr (.inr (by decide +kernel)))
 have v2:PE X (.Name "bottom" p6) (zFO 2):=vT (by rw[hN];rfl) (by rw[hsc];exact .inr (.inr (by decide +kernel)))
 refine⟨_,zJF bV (zHb aL (zHb aL v1 v0 (fun _ _=>rfl)) zJS (fun _ _=>rfl)) (zJF cS v2 (zHb aL (zHb aL v1' v0' (fun _ _=>rfl)) zJS (fun _ _=>rfl))),?_⟩
 obtain⟨t,c,rfl,h1,h2,rfl⟩:=zNU hk;obtain⟨v,hv,r⟩:=hs.at hd;obtain⟨ra,ys,rfl,h3,h4⟩:=r.tupI;obtain⟨u1,u2,rfl,r1,r2⟩:=h4.two;have e1:=r1.intI;have e2:=r2.intI;subst e1 e2;have S3:=cG sm h3;subst hσ
 have row:∀ Q':VK,Q' (.ref ra) H->(zRf X.K (.ref a) (.int j) H Q'∨zRi X.K (.ref a) (.int j) H Q'):=fun Q' q'=>by
  rcases hq with hq | hq
  ·exact .inl ⟨a,xs,j,.ref ra,rfl,rfl,dB sm hq,zEn hv,q'⟩
  ·exact .inr ⟨a,xs,j,.ref ra,rfl,rfl,cG sm hq,zEn hv,q'⟩
 refine⟨.ref a,rfl,.int j,rfl,row _ (.inr ⟨ra,_,0,.int t,rfl,rfl,S3,rfl,?_⟩)⟩
 refine⟨.int b,rfl,.ref a,rfl,.int j,rfl,row _ (.inr ⟨ra,_,1,.int c,rfl,rfl,S3,rfl,?_⟩)⟩
 exact⟨b,c,rfl,rfl,h1,t,b.fdiv c,rfl,rfl,h2,q⟩
theorem zQX{a:Expr}{ta:TA}{p pos:Pos}(hg:Gl X "range")(hm:X.mg "range" = none)(ha:PA X [a] ta)(hs:starEach [a] X.env=[(false,eval a X.env)]:=by rfl):
  PE X (.Call (.Name "range" p) [a] [] pos) (fun σ H Q=>ta σ H fun vs H1=>∃ n:Nat,vs=[.int n]/\∀ r,H1 r=none->Q (.ref r) (upd H1 r (.rng 0 n))):=by
 intro pins s σ H Q I h;refine wpAny_Call_Name_kw (pU I hg hm boot_range (VU (thn (ha pos pins s σ H _ I h) fun us s1 ⟨vs,H1,I1,r1,q1⟩=>?_) hs rfl))
 obtain⟨n,e,q⟩:=q1;subst e;obtain⟨u,rfl,t,rfl⟩:=zBj r1;refine call_range_1 ⟨.ref s1.heap.objs.size,_,I1.laid (fun b o e=>Heap.get?_push_of_some _ e) (Qg _) ?_,rfl,q _ I1.fresh⟩
 exact⟨_,_,_,Heap.get?_push_size _ rfl⟩
structure RankCx (X:Cx) (P c:Addr):Prop where
 calm:X.calm=true
 dp:X.A.depth<recursionLimit
 n0:X.N[0]?=some ("some" : Str)
 n1:X.N[1]?=some ("bottom" : Str)
 k0:X.env.kindOf "some" = some .cell
 k1:X.env.kindOf "bottom" = some .cell
 code:X.env.code=.ref c
 hd:∀ h,X.K.In h->CodeHd h c P
 qual:X.env.qual ++ "<lambda>" = tQ
 bm:BMn X.base X.mg
 clo:∃ cs cb,closureFor lT X.env=pure [(("some" : Str),cs),(("bottom" : Str),cb)]/\X.env.cells.lookup ("some" : Str)=some cs/\X.env.cells.lookup ("bottom" : Str)=some cb
 gS:Gl X "sorted"
 mS:X.mg "sorted" = none
 gR:Gl X "range"
 mR:X.mg "range" = none
 gL:Gl X "len"
 mL:X.mg "len" = none
def zQz(X:Cx)(P:Addr):TE:=fun σ H Q=>∃ Hi a xs rows b kz,σ[0]?=some (some (.ref a))/\σ[1]?=some (some (.int b))/\(SqL X.K Hi a xs∨SqT X.K Hi a xs)/\IsDs X.K Hi xs rows/\Same Hi H/\oY b rows=.ok kz/\kz.length<64/\zCy P H/\Hi P=none/\
 ∀ π r Hi' H',hZ kz π->Ext Hi H Hi' H'->zLk X.K H Hi' H' r (kO π)->Q (.ref r) H'
theorem zFQ{pins:List (Addr×Obj)}{σ:St}{H:Hp}{s:Shared}{i:Nat}{x:Str}{v:V}{c:Addr}(I:Inv X pins σ H s)(hi:X.N[i]?=some x)(hv:σ[i]?=some (some v))(hk:X.env.kindOf x=some .cell)(hc:X.env.cells.lookup x=some c):∃ u,dI v u/\s.heap.IsCell c (some u):=by
 obtain⟨m,hn,hl⟩:=I.loc;obtain⟨u,r,l⟩:=hl i x v hi hv (.inr (.inl hk));refine⟨u,r,?_⟩
 rcases l with⟨z,_⟩ | ⟨_,c',z,q⟩
 ·rw[hk] at z;cases z
 ·rw[hc] at z;cases z;exact q
theorem zNg{P c:Addr}(R:RankCx X P c){pk pl pm pn:Pos}(hs1:starEach [.Name "some" p3] X.env=(false,eval (.Name "some" p3) X.env)::starEach [] X.env:=by rfl)
  (hs2:starEach [.Call (.Name "len" p2) [.Name "some" p3] [] p4] X.env=[(false,eval (.Call (.Name "len" p2) [.Name "some" p3] [] p4) X.env)]:=by rfl)
  (hs3:starEach [.Call (.Name "range" p1) [.Call (.Name "len" p2) [.Name "some" p3] [] p4] [] p5] X.env=(false,eval (.Call (.Name "range" p1) [.Call (.Name "len" p2) [.Name "some" p3] [] p4] [] p5) X.env)::starEach [] X.env:=by rfl):
  PE X (.Call (.Name "sorted" pk) [.Call (.Name "range" p1) [.Call (.Name "len" p2) [.Name "some" p3] [] p4] [] p5] [⟨some "key", .Lambda (zEe p6) (.BinOp (.Subscript (.Subscript (.Name "some" p7) (.Name "spot" p8) p9) (.Constant (.int 0) 0 pa) pb) .Mult
   (.BinOp (.Name "bottom" pc) .FloorDiv (.Subscript (.Subscript (.Name "some" pd) (.Name "spot" pe) pf) (.Constant (.int 1) 0 pg) ph) pi) pj) lT pl,pm⟩] pn) (zQz X P):=by
 intro pins s σ H Q I h;obtain⟨Hi,a,xs,rows,b,kz,e0,e1,hq,hds,sm,hkz,h64,tb,hiP,q⟩:=h;obtain⟨hl1,hl2⟩:=zAZ hkz;have hlen:xs.length=kz.length:=by rw[hds.length,hl1]
 refine wpAny_Call_Name_kw (pU I R.gS R.mS boot_sorted ?_ (by decide) (by decide))
 have vS:PE X (.Name "some" p3) (zFO 0):=vT R.n0 (.inr (.inl R.k0));have pR:=zQX (p:=p1) (pos:=p5) R.gR R.mR (lK (zI (p:=p2) (pos:=p4) aQ R.gL R.mL boot_len (lK vS tH hs1) (by decide) (by decide) hs1) tH (by rw[hs2];rfl)) hs2
 refine callWith_kw (thn ((lK pR tH hs3) pn pins s σ H (fun vs H1=>∃ r,vs=[.ref r]/\H r=none/\H1=upd H r (.rng 0 kz.length)) I ?reads) fun us s1 ⟨vs,H1,I1,r1,q1⟩=>?_) (by rw[hs3];rfl) (by rw[hs3];rfl)
 case reads=>
  refine⟨.ref a,e0,a,xs,rfl,hq.imp (dB sm) (cG sm),xs.length,rfl,fun r hr=>⟨r,rfl,hr,by rw[hlen]⟩⟩
 obtain⟨r,rfl,hr,rfl⟩:=q1;obtain⟨u,rfl,ru⟩:=zBj r1;cases ru;obtain⟨cs,cb,hcl,hcs,hcb⟩:=R.clo;have x1:Ext Hi H Hi (upd H r (.rng 0 kz.length)):=Ext.newF sm hr;refine kws_cons (zKw I1 (x1.h.t P tb) R.hd R.code R.qual R.bm hcl rfl fun f c' ctv oc vs t u H3 s3 I3 hkeep hsame hf hfs hfo hc1 hc2 hc3=>kws_nil ?_)
 have x2:Ext Hi H Hi H3:=x1.trans ⟨Same.refl _,hkeep,fun b o e=>hsame b o (x1.s _ _ e) (fun z=>by rw[z,hiP] at e;cases e),fun b e z=>absurd e z⟩
 have hr3:H3 r=some (.rng 0 kz.length):=hkeep.at aY;obtain⟨t1,t2,t3,hrg⟩:=I3.hok r _ hr3
 have I3p:Inv X (pins++[(f,kla_obj "<lambda>" tQ (zEe p6) _ lT [("some", cs),("bottom", cb)] ((X.mg "__name__").getD .none) c' ctv)]) σ H3 s3:=I3.pins_of fun p hp=>by
  rcases QI.mp hp with hp | hp
  ·exact I3.pin p (Qz _ hp)
  ·rw[Qu.mp hp]
   exact⟨hfo,hf.1,hf.2.1,hf.2.2.1,fun v z=>by have z':Data.func _=Data.cell v:=z;cases z'⟩
 refine zIe (kz:=kz) R.calm I3p hrg h64 rfl (fun j tk k hj s' pl Ip=>?_) fun D s' out c2 π I' fD hDs hD hπ hV=>?_
 ·obtain⟨d,hd,hk⟩:=hl2 j k hj
  have hfo':=(Ip.pin _ (Qz _ (Vx _ (Qz _ (Qu.mpr rfl))))).1;obtain⟨u0,r0,ce0⟩:=zFQ Ip R.n0 e0 R.k0 hcs;obtain⟨u1,r1,ce1⟩:=zFQ Ip R.n1 e1 R.k1 hcb
  have look:∀ {x:Str} {c:Addr},List.lookup x [(("some" : Str),cs),(("bottom" : Str),cb)]=some c->(x = "some" /\ c=cs)∨(x = "bottom" /\ c=cb):=fun {x c} z=>by
   have z':=Vy z;rcases Qd.mp z' with z' | z'
   ·cases z';exact .inl ⟨rfl,rfl⟩
   ·cases Qu.mp z';exact .inr ⟨rfl,rfl⟩
  have hne:cs≠cb:=fun z=>by
   have:=Ip.ok.inj _ _ _ hcs (z ▸ hcb)
   exact absurd this (by decide)
  have lam:∃ t,PE (cxL X.prog X.w X.K X.mg X.base ["spot","some","bottom"] tQ lT f (.ref c') [("some", cs),("bottom", cb)] X.A.in1.in1 X.stack s' H3) _ t/\t [some (.int j),some (.ref a),some (.int b)] H3 (fun v H'=>v=.int k/\H'=H3):=
   zLm (p1:=p7) (p2:=p8) (p3:=p9) (p4:=pa) (p5:=pb) (p6:=pc) (p7:=pd) (p8:=pe) (p9:=pf) (pa:=pg) (pb:=ph) (pc:=pi) (pz:=pj) rfl rfl rfl hq hds x2.s hd hk ⟨rfl,rfl⟩
  obtain⟨tt,hb,hqq⟩:=lam;refine wpAny_call (codeAny_mono (zNW (E:=fun _ _ _=>False) (p := "spot") (Ip.ok.hd R.calm) R.dp Ip.env0.in1.in1 hfo' ⟨c',oc,vs,t,rfl,(Ip.hok c' _ hc1).1,hc2,hc3⟩ rfl (by decide +kernel) rfl rfl rfl (by decide +kernel) (fun x hx=>?_) (fun x y c z1 z2=>?_) (fun x c z=>?_) rfl (fun i x v z1 z2=>?_) hb hqq) fun res s'' hres=>?_)
  ·have hx':=Vy hx
   rcases Qd.mp hx' with z | hx'
   ·cases z
   ·rcases Qd.mp hx' with z | hx'
    ·cases z;exact⟨cb,rfl⟩
    ·cases Qu.mp hx';exact⟨cs,rfl⟩
  ·rcases look z1 with⟨rfl,rfl⟩ | ⟨rfl,rfl⟩<;>rcases look z2 with⟨rfl,w⟩ | ⟨rfl,w⟩
   ·rfl
   ·exact absurd w hne
   ·exact absurd w.symm hne
   ·rfl
  ·rcases look z with⟨rfl,rfl⟩ | ⟨rfl,rfl⟩
   ·exact⟨⟨_,ce0⟩,Ip.freeC _ _ hcs⟩
   ·exact⟨⟨_,ce1⟩,Ip.freeC _ _ hcb⟩
  ·match i,z1,z2 with
   | 0,z1,z2=>cases z1;cases z2;exact .inl ⟨rfl,tk,rfl⟩
   | 1,z1,z2=>cases z1;cases z2;exact .inr ⟨by decide +kernel,cs,u0,rfl,ce0,r0⟩
   | 2,z1,z2=>cases z1;cases z2;exact .inr ⟨by decide +kernel,cb,u1,rfl,ce1,r1⟩
   | i+3,z1,z2=>simp at z2
  ·cases res with
   | error ev=>exact False.elim hres
   | ok fl=>
    cases fl with
    | ret u=>
     obtain⟨v,H',J,rv,rfl,rfl⟩:=Ip.after hres;obtain⟨t',rfl⟩:=rv;exact⟨⟨t',rfl⟩,J⟩
    | next=>exact False.elim hres
    | brk=>exact False.elim hres
    | cont=>exact False.elim hres
 ·have I'':Inv X pins σ H3 s':=I'.unpinned
  obtain⟨f0,f1,f2,f3,f4,f5⟩:=fD;have h0:X.s₀.heap.get? D=none:=Heap.get?_none_of_le (QD I3.sz hDs);have hl:=hV.length
  have okL:mJ X.prog X.w (upd H3 D (.lst (π.map fun i:Nat=>V.int (i:Int)))) s'.heap D (.lst (π.map fun i:Nat=>V.int (i:Int))):=by
   refine⟨?_,out.toList,c2,hV,by rw[Array.toArray_toList];exact hD⟩
   rw[Qe,hπ.1.length_eq,Qy,sizeLine_eq];omega
  have I4:=I''.track f0 h0 f1 f4 (fun p hp=>f5 p (by
   rcases QI.mp hp with hp | hp
   ·exact Vx _ hp
   ·exact Qz _ (Vx _ hp))) okL
  refine⟨.ref D,_,I4,rfl,q π D Hi _ hπ (x2.trans (Ext.newF x2.s f0)) ⟨x2.h.none f0,x2.s.none f0,_,aY,zCQ π⟩⟩
end
def spR(K:PySem.W.Frag)(mg:Str->Option Value)(kf:List D->Res (List Int)):Sp:=fun vs H Q _=>vs.length=1/\∃ Bi ds,TB K mg Bi H/\Same Bi H/\IsDs K Bi vs ds/\match kf ds with
 | .ok kz=>∀ π a Hi' H',hZ kz π->Ext Bi H Hi' H'->zLk K H Hi' H' a (kO π)->Q (.ref a) H'
 | _=>False
structure CanR (P:Program) (w:World) (K:PySem.W.Frag) (mg:Str->Option Value) (base:Heap) (k:Nat) (kf:List D->Res (List Int)):Prop where
 ex:∃ f fd,FnOk P w K mg base (CX1 P w) k f fd ["some"] (spR K mg kf)/\zCn K fd ["some"] []/\PySem.W.keepIn K (.ref f)=true/\mg "ranked" = some (.ref f)
theorem CanR.mono{P:Program}{w:World}{K:Fg_}{mg:Str->Option Value}{base:Heap}{j k:Nat}{kf:List D->Res (List Int)}(c:CanR P w K mg base j kf)(h:j<=k):CanR P w K mg base k kf:=by
 obtain⟨f,fd,F,r⟩:=c.ex;exact⟨⟨f,fd,F.mono h,r⟩⟩
structure RankDef (st:Stmt):Prop where
 k0:(aH st).names.lookup ("some" : Str)=some .cell
 k1:(aH st).names.lookup ("bottom" : Str)=some .cell
 gS:(aH st).names.lookup ("sorted" : Str)=some .globalImplicit
 gR:(aH st).names.lookup ("range" : Str)=some .globalImplicit
 gL:(aH st).names.lookup ("len" : Str)=some .globalImplicit
 clo:∀ L f cdv,∃ cs cb,closureFor lT (envOfC "ranked" (aH st) L f cdv)=pure [(("some" : Str),cs),(("bottom" : Str),cb)]/\(envOfC "ranked" (aH st) L f cdv).cells.lookup ("some" : Str)=some cs/\(envOfC "ranked" (aH st) L f cdv).cells.lookup ("bottom" : Str)=some cb
section
variable{P:Program}{w:World}{K:Fg_}{mg:Str->Option Value}{base:Heap}{st s1 s2:Stmt}{f:Addr}{fd:FuncData}{k:Nat}{sa sb:Sv}{p1 p2 p3 p4 p5 p6 p7 p8 p9 pa pb pc pd pe pf pg ph pi pj pk pl pm pn po:Pos}
theorem zNQ{T:Addr}(F:Fn K mg "ranked" st ["some"] f fd)(S:FnScope ["some","bottom","each"] ["some"] (aH st))(D:RankDef st)(hT:rA K mg T)(hB:BMn base mg)(mS:mg "sorted" = none)(mR:mg "range" = none)(mL:mg "len" = none)
  (hbody:fW st=[s1,s2,.Return (some (.Call (.Name "sorted" pk) [.Call (.Name "range" p1) [.Call (.Name "len" p2) [.Name "some" p3] [] p4] [] p5] [⟨some "key", .Lambda (zEe p6) (.BinOp (.Subscript (.Subscript (.Name "some" p7) (.Name "spot" p8) p9) (.Constant (.int 0) 0 pa) pb) .Mult
   (.BinOp (.Name "bottom" pc) .FloorDiv (.Subscript (.Subscript (.Name "some" pd) (.Name "spot" pe) pf) (.Constant (.int 1) 0 pg) ph) pi) pj) lT pl,pm⟩] pn)) po])
  (h:∀(cdv:Value)(A:Around)(outer:List Env)(s:Shared)(H:Hp)(E:XK)(G:Gx),Good (BX P w K mg base ["some","bottom","each"] "ranked" st f cdv A outer s H E) G k->zHu (BX P w K mg base ["some","bottom","each"] "ranked" st f cdv A outer s H E) G->
   PSd (BX P w K mg base ["some","bottom","each"] "ranked" st f cdv A outer s H E) G s1 sa/\PSd (BX P w K mg base ["some","bottom","each"] "ranked" st f cdv A outer s H E) G s2 sb):
  CanR P w K mg base (k+1) (zBE sa sb):=by
 refine⟨f,fd,?_,F.bd,F.kp,F.mg⟩
 obtain⟨f',oc',od',fd',osl',c,t1,t2,t3,t4⟩:=id hT;have ef:f'=f:=by have:=t1.symm.trans F.mg;exact Value.ref.inj (QP this)
 subst ef;obtain⟨oc,od,kV,doc,pm',an,cdv,ct,osl,rfl,lk,hcd⟩:=F.fn.ex
 have efd:cdv=.ref c:=by
  rw[lk] at t2;cases t2;exact t3
 subst efd;refine zQt lk hcd S (fun vs H Q E h=>h.1) fun A outer s H vs Q E hr hsp=>?_
 obtain⟨hl,Bi,ds,tb,sm,hd,hq⟩:=hsp;have hg:=zHR (P:=P) (w:=w) (K:=K) (mg:=mg) (base:=base) (N:=["some","bottom","each"]) (outer:=outer) (H:=H) (Bi:=Bi) (E:=E) hr tb;obtain⟨h1,h2⟩:=h (.ref c) A outer s H E _ hg zFE
 have RC:RankCx (BX P w K mg base ["some","bottom","each"] "ranked" st f' (.ref c) A outer s H E) T c:=
  ⟨rfl,hr.depth,rfl,rfl,D.k0,D.k1,rfl,t4,by show(("ranked" : Str) ++ ".<locals>.") ++ "<lambda>" = tQ;decide +kernel,hB,D.clo _ _ _,D.gS,mS,D.gR,mR,D.gL,mL⟩
 have body:∀ G,PSs (BX P w K mg base ["some","bottom","each"] "ranked" st f' (.ref c) A outer s H E) [s1] (tS (BX P w K mg base ["some","bottom","each"] "ranked" st f' (.ref c) A outer s H E) G sa)->PS (BX P w K mg base ["some","bottom","each"] "ranked" st f' (.ref c) A outer s H E) s1 (tS (BX P w K mg base ["some","bottom","each"] "ranked" st f' (.ref c) A outer s H E) G sa)->PS (BX P w K mg base ["some","bottom","each"] "ranked" st f' (.ref c) A outer s H E) s2 (tS (BX P w K mg base ["some","bottom","each"] "ranked" st f' (.ref c) A outer s H E) G sb)->
   PSs (BX P w K mg base ["some","bottom","each"] "ranked" st f' (.ref c) A outer s H E) (fW st) (zRW (tS (BX P w K mg base ["some","bottom","each"] "ranked" st f' (.ref c) A outer s H E) G sa) (zRW (tS (BX P w K mg base ["some","bottom","each"] "ranked" st f' (.ref c) A outer s H E) G sb) (zSq (zQz (BX P w K mg base ["some","bottom","each"] "ranked" st f' (.ref c) A outer s H E) T)))):=fun G _ h1 h2=>by
  rw[hbody];exact tZ h1 (tZ h2 (zBL (zFY (zNg RC))))
 refine⟨_,body _ (zBL h1) h1 h2,?_⟩
 cases ek:zBE sa sb ds with
 | no=>rw[ek] at hq;exact hq.elim
 | err c=>rw[ek] at hq;exact hq.elim
 | ok kz=>
  rw[ek] at hq;unfold zBE at ek;split at ek
  case isFalse=>cases ek
  split at ek
  case h_2=>cases ek
  rename_i ρ1 e1
  split at ek
  case h_2=>cases ek
  rename_i ρ2 e2
  refine⟨L3.start 3 ds,Bi,zDo (N:=["some","bottom","each"]) sm hd,?_⟩
  rw[e1];intro σ1 Hi1 H1 sm1 R1;refine⟨ρ1,Hi1,R1,?_⟩
  rw[e2];intro σ2 Hi2 H2 sm2 R2;unfold zER at ek;split at ek
  case h_2=>cases ek
  rename_i rows b z0 z1
  split at ek
  case isFalse=>cases ek
  rename_i h64
  obtain⟨v,q0,r0⟩:=R2.slot 0 _ z0;obtain⟨v1,q1,r1⟩:=R2.slot 1 _ z1;obtain⟨a,xs,rfl,g1,g2⟩:=r0.lstI;have r1':=r1.intI;subst r1';obtain⟨tb2,n2⟩:=hg.tb.ext R2.ext T hT;exact⟨Hi2,a,xs,rows,b,kz,q0,q1,.inl g1,g2,R2.s,ek,by rw[(zAZ ek).1];exact h64,tb2,n2,fun π r Hi' H' hπ x nl=>hq π r Hi' H' hπ (R2.ext.trans x) ⟨R2.ext.h.none nl.1,nl.2⟩⟩
end
section
variable{X:Cx}{G:Gx}{e:Expr}{es:List Expr}{pos p:Pos}{fs:Fv}{k:Nat}{kf:List D->Res (List Int)}{tg:Expr}{body rest:List Stmt}{g:Gv}{sa sb:Sv}
def tIr(X:Cx)(G:Gx)(fs:Fv)(kf:List D->Res (List Int)):TI:=fun σ H R=>∃ ρ Hi,lU X G Hi H σ ρ/\Out G Hi H ((fs ρ).bind kf) fun kz Hi' H'=>∀ π J,hZ kz π->xQ X.K Hi' J (kO π)->R J H'
theorem zOf(W:Good X G k)(c:CanR X.prog X.w X.K X.mg X.base k kf)(hkf:∀ ds c,kf ds≠.err c)(hk1:∀ ds,kf ds≠.no->ds.length=1)(hg:Gl X "ranked")(ha:PAd X G [e] fs)(he:starEach [e] X.env=(false,eval e X.env)::starEach [] X.env:=by rfl):
  PI X tg (.Call (.Name "ranked" p) [e] [] pos) (tIr X G fs kf):=by
 obtain⟨f,fd,F,b,kp,hm⟩:=c.ex;refine PI.wk (zNS (zDN F W.room hg hm kp b .nil W.pass ha (by decide) he rfl)) fun σ H R q=>?_
 obtain⟨ρ,Hi,Rl,ou⟩:=q;refine zKh Rl ou fun vs ds Hi1 H1 e1 R1 r1 o1=>?_
 rw[QK];have hno:kf ds≠.no:=fun z=>by rw[z] at o1;exact o1
 refine⟨by rw[r1.length];exact hk1 ds hno,Hi1,ds,W.tb.ext R1.ext,R1.s,r1,?_⟩
 cases z:kf ds with
 | no=>exact absurd z hno
 | err c=>exact absurd z (hkf ds c)
 | ok kz=>
  rw[z] at o1;intro π a Hi2 H2 hπ e2 n;obtain⟨n1,n2,xs,n3,n4⟩:=n;have x3:=e2.hold n1 n3 n2;refine⟨a,rfl,⟨xs,SqL.of n3⟩,o1 _ _ x3 π _ hπ (zCV (SqL.of aY) (n4.mono (dG n2 _)))⟩
theorem zJa(W:Good X G k)(c:CanR X.prog X.w X.K X.mg X.base k kf)(hkf:∀ ds c,kf ds≠.err c)(hk1:∀ ds,kf ds≠.no->ds.length=1)(hg:Gl X "ranked")(ha:PAd X G [e] fs)(hgt:PGd X G tg g)(hge:∀ d ρ c,g d ρ≠.err c)(hb:fB X G body sa)(hr:fB X G rest sb)
  (he:starEach [e] X.env=(false,eval e X.env)::starEach [] X.env:=by rfl) {pf:Pos} (hs:∀ x,foldedSetIterable (.Call (.Name "ranked" p) [e] [] pos) X.env x=pure x:=by intro _;rfl):
  fB X G (.For tg (.Call (.Name "ranked" p) [e] [] pos) body [] pf::rest) (zIE fs kf g sa sb):=by
 refine PSs.wk (tZ (zJP W.own W.calm (zOf W c hkf hk1 hg ha he) hgt hb hs) hr) fun E σ H q=>?_
 obtain⟨ρ,Hi,R,h⟩:=q;refine⟨ρ,Hi,R,oI R h fun kz Hi1 H1 _ e1 h1 π J hπ gv=>?_⟩
 have hn:oX kz (fun π=>aX (fun ρ=>fS g sa (kO π) ρ) sb ρ)≠.no:=fun z=>by rw[z] at h1;exact h1
 rw[<-zGW hn hπ] at h1;exact zLQ hge (R.grow e1) (zPf (sa:=fun ρ=>fS g sa (kO π) ρ) h1) gv
end
def zRb(K:PySem.W.Frag)(mg:Str->Option Value):Sp:=fun vs H Q _=>∃(a:Addr)(ns:List Int)(Bi:Hp),vs=[.ref a]/\TB K mg Bi H/\Same Bi H/\SqL K Bi a (ns.map V.int)/\ns.length<=63/\(∃ m,m<=1048576/\∀ n∈ns,n.natAbs<2^m)/\∀ H',Q (.bl true) H'
theorem zOe{P:Program}{w:World}{K:Fg_}{mg:Str->Option Value}{base:Heap}{k:Nat}{m:Mir}{f:Addr}{fd:FuncData}(F:FnOk P w K mg base (CX1 P w) k f fd ["script"] (spM K mg 1 m))
  (h:∀ ns:List Int,ns.length<=63->(∃ m,m<=1048576/\∀ n∈ns,n.natAbs<2^m)->m [.lst (ns.map D.int)]=.ok (.v (.bl true))):FnOk P w K mg base (CX1 P w) k f fd ["script"] (zRb K mg):=by
 refine F.imp fun vs H Q E q=>?_
 obtain⟨a,ns,Bi,rfl,tb,sm,hS,hl,hbg,q⟩:=q;refine⟨rfl,Bi,[.lst (ns.map D.int)],tb,sm,.cons (.lst hS (zDs ns)) .nil,?_⟩
 rw[h ns hl hbg];intro v Hi' H' e r;rw[r.blI];exact q H'
theorem zKA{K:Fg_}{mg:Str->Option Value}{h:Heap}{T T':Addr}(X:K.In h)(a:rA K mg T)(b:rA K mg T'):T'=T:=by
 obtain⟨f,oc,od,fd,osl,c,a1,a2,a3,a4⟩:=a;obtain⟨f',oc',od',fd',osl',c',b1,b2,b3,b4⟩:=b;rw[a1] at b1;cases b1
 rw[a2] at b2;cases b2
 rw[a3] at b3;cases b3
 obtain⟨o,vs,_,_,_,_,_,_,_,e1,_,e3,e4,_⟩:=a4 h X;obtain⟨o',vs',_,_,_,_,_,_,_,f1,_,f3,f4,_⟩:=b4 h X;rw[e1] at f1;cases f1
 rw[e3] at f3;cases f3
 rw[e4] at f4;cases f4
 rfl
theorem zJJ{P:Program}{w:World}{K:Fg_}{mg mb:Str->Option Value}{CX:CXT}{k:Nat}{fa a T:Addr}{fd:FuncData}{x:Str}{s₁:Shared}{vs:List Value}{ns:List Int}
  (KX:K.In s₁.heap) (hns:s₁.heap.Ns mainGlobals mg) (hb:s₁.heap.Ns builtinsNs mb) (hbb:∀ x:Str,x ≠ "__name__" -> mb x=bootBuiltins x) (hlim:s₁.heap.NoLimit) (hg:s₁.gens=#[]) (hbm:BMn s₁.heap mg) (hT:s₁.heap.get? T=some (tabObj #[])) (hKT:K.lookup T=none) (hP:rA K mg T)
  (ha:s₁.heap.get? a=some { cls:=.type "list", data:=.seq vs.toArray }) (hi:IntsAre vs ns) (hl:ns.length<=63) (hbg:∃ m,m<=1048576/\∀ n∈ns,n.natAbs<2^m) (hr:Room k callerA)
  (F:∀ base:Heap,K.In base->base.Ns mainGlobals mg->BMn base mg->FnOk P w K mg base CX k fa fd [x] (zRb K mg)) (hbind:∀(s:Shared)(u:Value),BindsTo s fd ⟨[u],[]⟩ [(x,u)])
  (hCX:∀ H e s',CX [] H s₁ (fun _ _ _=>False) e s'->False):
  codeAny (model P w) callerA (.call (.ref fa) ⟨[.ref a],[]⟩) (fun r s'=>r=.ok (.ret (.bool true))/\OldK s₁.heap s'.heap/\s'.os=s₁.os/\AllBare s'.gens) s₁:=by
 have rv:=zCl hi;have lenV:=hi.length;have haT:a≠T:=fun z=>by rw[z,hT] at ha;cases ha
 have core:∀ Bi:Hp,zSY Bi->SqL K Bi a (ns.map V.int)->HOk P w Bi s₁.heap->(∀ b,Bi b≠none->b=a)->(Bi a≠none->K.lookup a=none)->
   codeAny (model P w) callerA (.call (.ref fa) ⟨[.ref a],[]⟩) (fun r s'=>r=.ok (.ret (.bool true))/\OldK s₁.heap s'.heap/\s'.os=s₁.os/\AllBare s'.gens) s₁:=by
  intro Bi hO hS hokB hA hK
  have hBT:Bi T=none:=by
   cases q:Bi T with
   | none=>rfl
   | some u=>exact absurd (hA T (by rw[q];simp)).symm haT
  generalize hHdef:upd Bi T (.tbl #[])=H;have HT:H T=some (.tbl #[]):=by rw[<-hHdef,aY]
  have Hne:∀ {b},b≠T->H b=Bi b:=fun z=>by rw[<-hHdef,bA z]
  have sm:Same Bi H:=fun b o e=>by rw[Hne (bD e hBT)];exact e
  have hok:HOk P w H s₁.heap:=fun b u e=>by
   by_cases hb:b=T
   ·subst hb;rw[HT] at e;cases e;exact hT
   ·rw[Hne hb] at e
    exact(hokB b u e).stay (fun c v _ q=>q) (fun c q=>sm _ _ q) fun c xs q=>sm _ _ q
  have only:∀ {b:Addr} {o:Obj},s₁.heap.get? b=some o->(∀ xs n,o.data≠.seq xs n)->(∀ vs,o.data≠.fields vs)->H b=none:=fun {b o} e d1 d2=>by
   by_cases hb:b=T
   ·subst hb;rw[hT] at e;cases e;exact absurd rfl (d2 #[])
   ·rw[Hne hb]
    cases q:Bi b with
    | none=>rfl
    | some u=>
     have e':b=a:=hA b (by rw[q];simp)
     subst e';rw[ha] at e;cases e
     exact absurd rfl (d1 _ _)
  have base_of:∀ {b:Addr} {o:Obj},s₁.heap.get? b=some o->H b=none->(zKi s₁.heap H).get? b=some o:=fun e n=>zLo e n
  have nsK:∀ {b:Addr} {m:Str->Option Value},s₁.heap.Ns b m->(zKi s₁.heap H).Ns b m:=fun {b m} ⟨o,es,ep,e,d,r⟩=>⟨o,es,ep,base_of e (only e (fun xs n z=>by rw[d] at z;cases z) (fun vs z=>by rw[d] at z;cases z)),d,r⟩
  have hKb:K.In (zKi s₁.heap H):=fun b o e=>base_of (KX b o e) (by
   by_cases hb:b=T
   ·subst hb;rw[hKT] at e;cases e
   ·rw[Hne hb]
    cases q:Bi b with
    | none=>rfl
    | some u=>
     have e':b=a:=hA b (by rw[q];simp)
     subst e'
     rw[hK (by rw[q];simp)] at e;cases e)
  have hBb:BMn (zKi s₁.heap H) mg:=by
   obtain⟨bm,ob,b1,b2,b3,b4,b5,b6⟩:=hbm;exact⟨bm,ob,b1,b2,base_of b3 (only b3 (fun xs n z=>by rw[b6] at z;cases z) (fun vs z=>by rw[b6] at z;cases z)),b4,b5,b6⟩
  have hM:Mod K mg (zKi s₁.heap H):=⟨hKb,nsK hns,⟨mb,nsK hb,hbb⟩,let ⟨mc,h1,h2⟩:=hlim;⟨mc,nsK h1,h2⟩⟩;have e0:Env0 P w K mg (zKi s₁.heap H) callerA [] s₁ H:=⟨rfl,hM,fun b o e=>zNK e,X2 (zIn _ _),trivial,fun b hb=>absurd (show b∈([]:List Addr) from hb) (by simp),hok,.of_eq hg⟩
  have htb:TB K mg Bi H:=fun T' h'=>by
   have e':=zKA KX hP h';subst e';exact⟨⟨#[],HT,trivial,fun pos cv z=>by cases z⟩,hBT⟩
  refine codeAny_mono ((F _ hKb (nsK hns) hBb).run callerA [] s₁ H ⟨[.ref a],[]⟩ [.ref a] [.ref a] (fun v _=>v=.bl true) (fun _ _ _=>False) hr e0 (hbind s₁ (.ref a)) (.cons rfl .nil) ⟨a,ns,Bi,rfl,htb,sm,hS,hl,hbg,fun _=>rfl⟩) fun r s' h=>?_
  cases r with
  | error e=>exact(hCX H e s' h).elim
  | ok fl=>
   cases fl with
   | next=>exact False.elim h
   | brk=>exact False.elim h
   | cont=>exact False.elim h
   | ret u=>
    obtain⟨v,H',os,bare,un,hok',r',q⟩:=h;have q':v=.bl true:=q;subst q';obtain rfl:u=Value.bool true:=r';refine⟨rfl,⟨fun b o e=>?_,fun b o e=>un.there b o e (by simp)⟩,os,bare⟩
    by_cases hbT:b=T
    ·subst hbT
     obtain⟨more,z⟩:=un.tbls b _ HT;have z2:s'.heap.get? b=some { cls:=.none,data:=.fields (#[]++more) }:=hok' b _ z;rw[hT] at e;cases e
     obtain⟨f,oc,od,fd',osl,c,a1,a2,a3,a4⟩:=hP;obtain⟨o,vs,_,_,_,_,_,_,_,e1,e2,e3,e4,_⟩:=a4 _ KX;exact .inr (.inl ⟨⟨c,o,vs,e1,e2,e3,e4⟩,rfl,#[],more,rfl,z2⟩)
    ·refine .inl ?_
     cases q:H b with
     | none=>exact un.keep b o e q (by intro z;exact absurd (show b∈([]:List Addr) from z) (by simp)) (by simp)
     | some u=>
      rw[Hne hbT] at q;rcases hO b with z | ⟨ob,xs,z⟩
      ·rw[q] at z;cases z
      ·have z2:=un.frzs b ob _ (by rw[Hne hbT];exact z)
       obtain⟨e1,_⟩:=hokB b _ z;obtain⟨e2,_⟩:=hok' b _ z2;rw[e] at e1;cases e1
       exact e2
 cases hk:K.lookup a with
 | some o=>
  have e:=KX a o hk;rw[ha] at e;cases e;refine core (fun _=>none) (fun _=>.inl rfl) (.inr ⟨_,vs.toArray,_,hk,rfl,rfl,rfl,by rw[Qk,lenV,sizeLine_eq];omega,by simpa using rv⟩) (fun b u z=>by have z':(none:Option HO)=some u:=z;cases z') (fun b z=>absurd rfl z) fun z=>absurd rfl z
 | none=>
  refine core (fun b=>if b=a then some (.frz { cls:=.type "list", data:=.seq vs.toArray } (.lst (ns.map V.int))) else none) (fun b=>?_) (.inl (.inr ⟨{ cls:=.type "list", data:=.seq vs.toArray },if_pos rfl⟩)) (fun b u z=>?_) (fun b z=>?_) fun _=>hk
  ·by_cases hb:b=a
   ·exact .inr ⟨_,_,if_pos hb⟩
   ·exact .inl (if_neg hb)
  ·by_cases hb:b=a
   ·have z':=(if_pos hb).symm.trans z
    cases z'
    subst hb;exact⟨ha,by rw[Qe,sizeLine_eq];omega,vs,_,rv,ha⟩
   ·have z':=(if_neg hb).symm.trans z
    cases z'
  ·by_cases hb:b=a
   ·exact hb
   ·exact absurd (if_neg hb) z
theorem zMt:∀ {ns:List Int} {n:Int},n∈ns->(WData.int n).weight<=WData.weightAll (ns.map WData.int)
 | a::r,n,h=>by
  rw[Qs,WData.weightAll];rcases Qd.mp h with rfl | h
  ·omega
  ·have:=zMt h
   omega
theorem zNs{ns:List Int}(h:WData.layableAll [WData.list (ns.map WData.int)]=true):(∃ m,m<=1048576/\∀ n∈ns,n.natAbs<2^m):=by
 refine⟨1048576,Qg _,fun n hn=>?_⟩
 have w:WData.weightAll (ns.map WData.int)<=2^20:=by
  unfold WData.layableAll WData.layable at h;simp only[List.all_cons,List.all_nil,Bool.and_true,Va,decide_eq_true_eq] at h;have:=h.2
  rw[WData.weight] at this;exact this
 have a:=zMt hn;rw[WData.weight] at a;by_cases z:n=0
 ·subst z
  exact Nat.two_pow_pos _
 ·rw[if_neg (by simpa using z)] at a
  exact Qp Nat.lt_log2_self (Vc (by decide) (by omega))
open PySem.Calls in
theorem zCK{l:OpenLaw}{n:Nat}{q:Program}{loose:List Str}{XP:(Str->Option Value)->Heap->Prop}{YP:World->Heap->Prop}{d:DefRec}
  (hn:l.most=some n) (hdf:d.params.defaults=[])
  (call:∀(w:World)(s₀ s₁:Shared)(mg mb:Str->Option Value)(fa:Addr)(o:Obj)(pm cd doc:Value)(a:Addr)(vs:List Value)(ns:List Int),(∃ m,m<=1048576/\∀ n∈ns,n.natAbs<2^m)->
   Ground q loose [] XP w s₀ mg mb s₁.heap->YP w s₁.heap->
   s₁.heap.get? fa=some o->o.data=.func (docDef d.name d.params d.body d.scope pm cd doc)->s₁.heap.CodeRec cd d.name->mg d.name=some (.ref fa)->
   s₁.heap.get? a=some { cls:=.type "list", data:=.seq vs.toArray }->IntsAre vs ns->ns.length<=n->s₁.gens=#[]->
   codeAny (model l.prog w) callerA (.call (.ref fa) ⟨[.ref a],[]⟩) (fun r s'=>r=.ok (.ret (.bool true))/\OldK s₁.heap s'.heap/\s'.os=s₁.os/\AllBare s'.gens) s₁):
  WalkO q loose XP YP l.row.toRowW d [] (fun f vs=>PySem.call f vs):=by
 intro w s₀ s₁ mg mb G Y fa o pm cd doc dV kV ho hd hcd hD hmg hg args vals as hpre hlay hrd hwl hlo;obtain rfl:dV=.none:=Dflts.none hD hdf;obtain rfl:kV=.none:=Dflts.noKw hD;obtain⟨a,vs,ns,rfl,rfl,hobj,hints,hlen⟩:=Att.script_of hn hpre hwl;refine enter_call (codeAny_mono (call w s₀ s₁ mg mb fa o pm cd doc a vs ns (zNs hlay) G Y ho (fd_plain hd) hcd hmg hobj hints hlen hg) fun r s' hq=>?_)
 obtain⟨rfl,h2,h3,h4⟩:=hq;exact⟨.inl ⟨.bool true,.bool true,[],rfl,fun _=>rfl,.bool true,Att.post_true l _,fun _=>⟨List.Pairwise.nil,fun _ hm=>(nomatch hm)⟩⟩,h2,h3,h4⟩
theorem zRo{l:PySem.W.OpenLaw}{k:Nat}{q:Program}{loose:List Str}{XP:(Str->Option Value)->Heap->Prop}{YP:World->Heap->Prop}{d:DefRec}{K:Params->PySem.W.Frag}{T:Addr}(hn:l.most=some 63)(hdf:d.params.defaults=[])(hr:Room k callerA)
  (hY:∀(w:World)(h:Heap),YP w h->(K w.params).In h) (hT:∀(w:World)(h:Heap),YP w h->h.get? T=some (tabObj #[]))
  (F:∀(w:World)(mg:Str->Option Value)(fa:Addr)(h:Heap),(K w.params).In h->h.Ns mainGlobals mg->mg d.name=some (.ref fa)->
   (K w.params).lookup T=none/\rA (K w.params) mg T/\∃ fd:FuncData,(∀(s:Shared)(u:Value),BindsTo s fd ⟨[u],[]⟩ [("script", u)])/\∀ base:Heap,(K w.params).In base->base.Ns mainGlobals mg->BMn base mg->FnOk l.prog w (K w.params) mg base (CX1 l.prog w) k fa fd ["script"] (zRb (K w.params) mg)):
  PySem.W.WalkO q loose XP YP l.row.toRowW d [] (fun f vs=>PySem.call f vs):=by
 refine zCK hn hdf fun w s₀ s₁ mg mb fa o pm cd doc a vs ns hbg G Y ho hd hcd hmg hobj hints hlen hg=>?_
 have KX:=hY w _ Y;obtain⟨h1,h2,fd,hb,hF⟩:=F w mg fa _ KX G.T.g hmg
 exact zJJ KX G.T.g G.T.b G.T.builtins G.T.nolimit hg G.T.bmain (hT w _ Y) h1 h2 hobj hints hlen hbg hr hF hb fun _ _ _ z=>by
  obtain⟨_,_,_,_,_,z⟩:=z;exact z
section
variable{X:Cx}{G:Gx}{pins:List (Addr×Obj)}{σ:St}{H Hi:Hp}{s:Shared}{ρ:Rho}{i k:Nat}{st:Stmt}{sa:Sv}
end
section
variable{X:Cx}{G:Gx}{e a:Expr}{f g:Ev}{pos:Pos}
end
section
variable{X:Cx}{G:Gx}{st:Stmt}{rest:List Stmt}{sa sb:Sv}{u:TS}
end
section
variable{P:Program}{w:World}{K:Fg_}{mg:Str->Option Value}{base:Heap}{N ps:List Str}{x:Str}{st:Stmt}{f:Addr}{fd:FuncData}{k i0 i1 i2:Nat}{sv:Sv}
end
section
variable{X:Cx}{G:Gx}{e:Expr}{es:List Expr}{pos p:Pos}{fs:Fv}{k j0 j1 j2:Nat}{kf:List D->Res Tri}{x:Str}{ps:List Str}{tg:Expr}
end
def Itq(K:PySem.W.Frag)(a:Addr)(n:Nat):It:=
 ⟨fun i H=>∃ xs x,SqL K H a xs/\xs.length=n/\xs.reverse[i]?=some x,fun i H x H'=>H'=H/\∀ xs,SqL K H a xs->xs.reverse[i]?=some x,fun i H=>∃ xs,SqL K H a xs/\n<=i⟩
def rix(n i:Nat):Int:=(n:Int)-1-((min i n:Nat):Int)
theorem zHn{P:Program}{w:World}{K:Fg_}{tg:Expr}(a it:Addr)(n:Nat):Turn P w K tg (Itq K a n) [it] it (fun i h=>h.IsRevIter it a (rix n i)) where
 mem:=by simp
 obj:=fun i h st b hb=>by
  have e:b=it:=by simpa using hb
  subst e;obtain⟨o,e,c,d⟩:=st;exact⟨o,e,fun v z=>by rw[d] at z;cases z⟩
 keep:=fun i h h' st k=>st.at fun o e=>k it (by simp) o e
 item:=by
  intro X hP hw hK hc i pins s σ H E I hf st hg;subst hP hw hK;obtain⟨xs,x,hq,hn',hx⟩:=hg;obtain⟨its,rv,p,hz⟩:=I.list hq
  have hi:i<xs.length:=by
   have:=(QC.mp hx).1
   rwa [Q5] at this
  have hx':xs[n-1-i]?=some x:=by
   rw[X4 hi,hn'] at hx;exact hx
  obtain⟨u,hu,ru⟩:=rv.get hx';obtain⟨f0,f1,f2,f3,f4,f5⟩:=hf it (by simp)
  have st0:s.heap.IsRevIter it a ((n-1-i:Nat):Int):=by
   have e:rix n i=((n-1-i:Nat):Int):=by unfold rix;rw[VX (by omega)];omega
   rw[<-e];exact st
  refine wpAny_pyNext_rev_item (items:=its.toArray) st0 p.isList (x:=u) (by simpa using hu) fun h' st' sb=>?_
  have I1:Inv X pins σ H { s with heap:=h' }:=I.turned (t':=s.toks) (fun b o hb e=>(sb.2 b hb).trans e) f0 f1 f3 f4 f5
  obtain⟨o,e,c,d⟩:=id st'
  have st2:h'.IsRevIter it a (rix n (i+1)):=by
   have e:rix n (i+1)=((n-1-i:Nat):Int)-1:=by unfold rix;rw[VX (by omega)];omega
   rw[e];exact st'
  exact⟨u,rfl,zLs (s:={ s with heap:=h' }) e c d (by decide) ⟨x,H,I1,ru,⟨rfl,fun ys hy=>by rw[I.list_inj hy hq];exact hx⟩,st2,fun b hb=>(hf b hb).1⟩⟩
 done:=by
  intro X hP hw hK hc i pins s σ H E I hf st hg;subst hP hw hK;obtain⟨xs,hq,hx⟩:=hg;obtain⟨f0,f1,f2,f3,f4,f5⟩:=hf it (by simp)
  have st0:s.heap.IsRevIter it a (-1):=by
   have e:rix n i=-1:=by unfold rix;rw[Xn hx];omega
   rw[<-e];exact st
  exact wpAny_pyNext_rev_end (I.ok.hd hc) st0 fun h' eb=>⟨rfl,I.turned (t':=s.toks) (fun b o hb e=>eb b o hb e) f0 f1 f3 f4 f5⟩
 self:=fun _ _ _ _ _ st h=>wpAny_pyIter_revIter st h
section
variable{X:Cx}{G:Gx}{fs:Fv}{f:Ev}
def iRw(K:PySem.W.Frag)(ta:TA):TI:=fun σ H R=>ta σ H fun vs H1=>∃ a xs,vs=[.ref a]/\SqL K H1 a xs/\R (Itq K a xs.length) H1
theorem zOw{tg a:Expr}{ta:TA}{p pos:Pos}(hg:Gl X "reversed")(hm:X.mg "reversed" = none)(ha:PA X [a] ta)(hs:starEach [a] X.env=[(false,eval a X.env)]:=by rfl):PI X tg (.Call (.Name "reversed" p) [a] [] pos) (iRw X.K ta):=by
 intro pins s σ H R I h;refine Call_ (pU I hg hm zKM (VU (thn (ha pos pins s σ H _ I h) fun us s1 ⟨vs,H1,I1,r1,q1⟩=>?_) hs rfl))
 obtain⟨t,xs,rfl,hq,q⟩:=q1
 cases r1 with
 | cons r rr=>
  cases rr;cases r;obtain⟨its,rv,pt,hz⟩:=I1.list hq;have hl:=rv.length;refine call_reversed_list (items:=its.toArray) pt.isList ?_
  have hR:(s1.heap.push (revObj t ((its.toArray.size:Int)-1))).IsRevIter s1.heap.objs.size t (rix xs.length 0):=
   ⟨_,Heap.get?_push_size _ rfl,rfl,by unfold rix;rw[hl,Qk];simp[revObj]⟩
  refine wpAny_pyIter_revIter (s:={ s1 with heap:=_ }) hR ?_
  refine⟨s1.heap.objs.size,[s1.heap.objs.size],_,_,H1,rfl,I1.kept (t':=s1.toks) fun b o e=>Heap.get?_push_of_some _ e,zHn t _ xs.length,hR,fun b hb=>?_,q⟩
  have e:b=s1.heap.objs.size:=by simpa using hb
  subst e;exact I1.fpOk (Qg _) (I1.hok.fresh (Qg _))
theorem zGR{K:Fg_}{Hi:Hp}{a:Addr}{xs:List V}{ds:List D}(h1:SqL K Hi a xs)(h2:IsDs K Hi xs ds):xQ K Hi (Itq K a xs.length) ds.reverse:=fun Hi1 H1 s1 s2 i=>by
 have h3:=dB (s1.trans s2) h1;have hl:=h2.length;refine⟨fun hl'=>⟨xs,h3,by rw[Q5] at hl';omega⟩,fun d hd=>?_⟩
 have hi:i<ds.length:=by
  have:=(QC.mp hd).1
  rwa [Q5] at this
 rw[X4 hi] at hd;obtain⟨v,hv,r⟩:=h2.at hd;have hv':xs.reverse[i]?=some v:=by rw[X4 (by omega),hl];exact hv
 refine⟨⟨xs,v,h3,rfl,hv'⟩,fun x H2 y=>?_⟩
 obtain⟨e,y⟩:=y;subst e;have:=y xs h3
 rw[hv'] at this;cases this;exact⟨Hi1,Ext.refl s2,r.mono s1⟩
theorem zPm{tg a:Expr}{p pos:Pos}(hg:Gl X "reversed")(hm:X.mg "reversed" = none)(ha:PEd X G a f)(hst:starEach [a] X.env=[(false,eval a X.env)]:=by rfl):PId X G tg (.Call (.Name "reversed" p) [a] [] pos) (zKo f):=PI.wk (zOw hg hm (lK ha tH (by rw[hst];rfl)) hst) fun σ H Q q=>by
 obtain⟨ρ,Hi,R,ou⟩:=q;refine zDT R ou fun v d Hi1 H1 e1 R1 r1 o1=>?_
 cases d with
 | lst ds=>
  obtain⟨a,xs,rfl,h1,h2⟩:=r1.lstI;exact⟨a,xs,rfl,dB R1.s h1,o1.here R1.s _ (zGR h1 h2)⟩
 | _=>exact o1.elim
end
section
variable{prog:Program}{w:World}{A:Around}{E:Value->Shared->Prop}{s:Shared}
end
section
variable{X:Cx}{G:Gx}{f:Ev}
end
section
variable{X:Cx}{G:Gx}{it:Fv}{t:Tv}
theorem Rel.unset{K:Fg_}{mg:Str->Option Value}{B Bi Hi H:Hp}{σ σ':L2.St}{ρ:Rho}{j:Nat}(R:Rel K mg B Bi Hi H σ ρ)(hl:σ'.length=σ.length)(hs:∀ k,k≠j->σ'[k]?=σ[k]?):Rel K mg B Bi Hi H σ' (ρ.set j .un) where
 len:=by rw[QE,hl];exact R.len
 ext:=R.ext
 slot:=fun k s q=>by
  by_cases e:j=k
  ·subst e
   by_cases hl:j<ρ.length
   ·rw[QJ hl] at q;cases q;trivial
   ·rw[QA (by rw[QE];omega)] at q;cases q
  ·rw[QG e] at q
   rw[hs k (Ne.symm e)];exact R.slot k s q
 dist:=fun i k a ds es q1 q2 q3 q4=>by
  have h1:∀ {i:Nat} {ds:List D},(ρ.set j .un)[i]?=some (.own ds)->j≠i:=fun {i ds} q e=>by
   subst e;by_cases hl:j<ρ.length
   ·rw[QJ hl] at q;cases q
   ·rw[QA (by rw[QE];omega)] at q;cases q
  have n1:=h1 q1;have n2:=h1 q2;rw[QG n1] at q1;rw[QG n2] at q2;rw[hs i (Ne.symm n1)] at q3;rw[hs k (Ne.symm n2)] at q4;exact R.dist i k a ds es q1 q2 q3 q4
end
section
variable{X:Cx}{G:Gx}
theorem bE{i:Int}{j pos}:PEd X G (.Constant (.int i) j pos) (eC (.int i)):=kQ zJS fun _=>.int _
theorem aJ(i:Nat){x:Str}{pos:Pos}(hN:X.N[i]?=some x:=by rfl)(hv:Vis X.env.scope x:=by first | exact Or.inl rfl | exact Or.inr (Or.inl rfl) | exact Or.inr (Or.inr rfl))(hd:(x==("__debug__" : Str))=false:=by decide)
  (hcd:(x==("__classdict__" : Str))=false:=by decide):PEd X G (.Name x pos) (aG i):=zQr i (pv i hN hv hd hcd)
theorem eR(n:Nat){x:Str}{pos p2:Pos}{i:Int}{j p1}(hN:X.N[n]?=some x:=by rfl)(hv:Vis X.env.scope x:=by first | exact Or.inl rfl | exact Or.inr (Or.inl rfl) | exact Or.inr (Or.inr rfl))(hd:(x==("__debug__" : Str))=false:=by decide)
  (hcd:(x==("__classdict__" : Str))=false:=by decide):PEd X G (.Subscript (.Name x pos) (.Constant (.int i) j p1) p2) (eOp oIx (aG n) (eC (.int i))):=aT aL bZ (aJ n hN hv hd hcd) bE (fun _ _=>rfl)
end
section
variable{X:Cx}{G:Gx}{it:Fv}{t:Tv}
theorem zQL{x y:Str}{j k:Nat}{iter c:Expr}{body:List Stmt}{m:Nat}{p p' pt p2 pos:Pos}(hp:PassesOwn (model X.prog X.w) X.A X.env X.xe)(hc:X.calm=true)(hN:X.N.Nodup)(hj:X.N[j]?=some x)(hx:Loc X.env.scope x)(hk:X.N[k]?=some y)(hy:Loc X.env.scope y)
  (hi:PId X G (.Tuple [.Name x p,.Name y p'] m pt) iter it) (ht:PTd X G c t) (hf:X.fn x=true∨X.env.scope.names.lookup x=some .local:=by first | exact .inl rfl | exact .inr rfl | assumption) (hf':X.fn y=true∨X.env.scope.names.lookup y=some .local:=by first | exact .inl rfl | exact .inr rfl | assumption)
  (hs:∀ x,foldedSetIterable iter X.env x=pure x:=by intro _;rfl):PSd X G (.For (.Tuple [.Name x p,.Name y p'] m pt) iter [.If c body [] p2] [] pos) (zIx j k it t):=
 PS.wk (zJP hp hc hi (zJY hc (qI (vY hN hj hx hf) (qI (vY hN hk hy hf') zDV))) (zBL (zPv ht zHA zJn)) hs) fun E σ H q=>by
 obtain⟨ρ,Hi,R,h⟩:=q;obtain⟨Hf,s1,R1,fl⟩:=R.frz;unfold zIx at h
 cases z:it (ρ.map Sl.frz) with
 | no=>rw[z] at h;exact h.elim
 | err c=>rw[z] at h;exact h.elim
 | ok ds=>
  rw[z] at h;by_cases al:zKk t j k (ρ.map Sl.frz) ds=true
  ·have h':Fin X G Hi E (.ok (.nx ((ρ.set j .un).set k .un))):=by
    have h2:Fin X G Hi E (if zKk t j k (ρ.map Sl.frz) ds=true then .ok (.nx ((ρ.set j .un).set k .un)) else .no):=h;rw[if_pos al] at h2;exact h2
   refine⟨ρ.map Sl.frz,Hf,R1,?_⟩
   rw[z];intro Hi1 H1 e1 J gv;refine⟨fun i m σ' H'=>m=ds.length-i/\(σ'=σ∨∃ v w,σ'=(σ.set j (some v)).set k (some w))/\∃ Hk,Ext Hf H Hk H'/\Same Hi1 Hk,⟨_,rfl,.inl rfl,Hi1,e1,Same.refl _⟩,?_⟩
   rintro i m σ' H' ⟨rfl,hσ,Hk,ek,sk⟩
   obtain⟨w1,w2⟩:=gv Hk H' sk ek.s i;by_cases hl:i<ds.length
   ·obtain⟨d,hd⟩:∃ d,ds[i]?=some d:=⟨_,Ql hl⟩
    obtain⟨go,yl⟩:=w2 d hd;obtain⟨da,db,rfl,et⟩:=zJV al (Qi hd);refine .inr ⟨go,fun σ2 H2=>(∃ v w,σ2=(σ.set j (some v)).set k (some w))/\∃ Hk,Ext Hf H Hk H2/\Same Hi1 Hk,fun σ2 H2 z=>⟨ds.length-(i+1),by omega,rfl,.inr z.1,z.2⟩,fun x H2 y=>?_⟩
    obtain⟨Hk2,e2,r2⟩:=yl x H2 y;have ek2:Ext Hf H Hk2 H2:=ek.trans e2;have R0:=R1.grow ek2;obtain⟨a,xs,rfl,q1,q2⟩:=r2.tupI;obtain⟨va,vb,rfl,ra,rb⟩:=q2.two
    have es:(σ'.set j (some va)).set k (some vb)=(σ.set j (some va)).set k (some vb):=by
     rcases hσ with rfl | ⟨v,w,rfl⟩
     ·rfl
     ·by_cases jk:j=k
      ·subst jk
       simp only[X5]
      ·rw[List.set_comm (some w) (some va) (fun e=>jk e.symm),X5,X5]
    have R2:lU X G Hk2 H2 ((σ.set j (some va)).set k (some vb)) (((ρ.map Sl.frz).set j (.val da)).set k (.val db)):=(R0.set ra).set rb;refine⟨a,[va,vb],rfl,cG R0.s q1,rfl,va,[vb],rfl,vb,[],rfl,rfl,?_⟩
    show tTb X G t ((σ'.set j (some va)).set k (some vb)) H2 _
    rw[es];refine⟨_,Hk2,R2,?_⟩
    rw[et];intro Hk3 H3 e3;exact⟨⟨va,vb,rfl⟩,Hk3,ek2.trans e3,(sk.trans e2.i).trans e3.i⟩
   ·obtain⟨Ht,et,_⟩:=Ext.thaw s1 fl R1.s ek
    refine .inl ⟨w1 (by omega),h' _ Ht H' et.i ?_⟩
    rcases hσ with rfl | ⟨v,w,rfl⟩
    ·exact((R.grow et).unset (j:=j) rfl (fun _ _=>rfl)).unset rfl (fun _ _=>rfl)
    ·exact((R.grow et).unset (j:=j) (σ':=σ.set j (some v)) (by rw[QE]) (fun n hn=>by rw[QG (Ne.symm hn)])).unset (by rw[QE]) (fun n hn=>by rw[QG (Ne.symm hn)])
  ·have h2:Fin X G Hi E (if zKk t j k (ρ.map Sl.frz) ds=true then .ok (.nx ((ρ.set j .un).set k .un)) else .no):=h
   rw[if_neg al] at h2;exact h2.elim
end
end L3
namespace PySem.W.Fast
def tw12634547132582594554:=0
def tw17355052648111249793:=0
def tw6261328463166850844:=0
def tw10507549398042581710:=0
def tw16641808949388612011:=0
def tw9610633388291733365:=0
def tw3155370918958346431:=0
def tw6428991987024526980:=0
def tw11654878225830667993:=0
def tw1583748678868924397:=0
def tw15007833332129610538:=0
def tw8499307822255902384:=0
def tw8912967696108597438:=0
def tw16696644548525751981:=0
def tw5524115243891586527:=0
def tw3181905979342695667:=0
def tw616809797321379946:=0
def tw1968025387660332140:=0
def tw5168920822579522858:=0
def tw5943610356561543572:=0
def tw18228431014208529243:=0
def tw13605361241597134866:=0
def tw4147259753199990652:=0
def tw8060913033563878974:=0
def tw13290472285935908620:=0
def tw16500077155134694730:=0
def tw5816424810415000343:=0
def tw14463110635728404005:=0
def tw16703006750154417396:=0
def tw17315959031423279534:=0
def tw8697182247276665978:=0
def tw3450992683793146479:=0
def tw3887070888714245417:=0
def tw7695907933573326162:=0
def tw201414696721385460:=0
def tw634645354209207968:=0
def tw11997921566143884824:=0
def tw10664032071557302277:=0
def tw2018677647015503358:=0
def tw11265966349655504966:=0
def tw12613656046782324705:=0
def tw13878210714067082577:=0
def tw9987977153030092615:=0
def tw1809129283270043139:=0
def tw9860866853010863376:=0
def tw14578788445483470413:=0
def tw3280200389943142412:=0
def tw1731020618617929377:=0
def tw14742051867936160210:=0
def tw18118166196329233250:=0
def tw1620436915045853843:=0
def tw5388029172909908371:=0
def tw13710064322729738248:=0
def tw2347241357614482811:=0
def tw110658080398251023:=0
def tw18413250188490757633:=0
def tw14978722593908991484:=0
def tw4553462372342762410:=0
def tw2133374983203597156:=0
def tw10534463415441382055:=0
def tw12918414580045195245:=0
def tw5381382700688063595:=0
def tw18039513043139159444:=0
def tw14427966462098476235:=0
def tw10900149634184187479:=0
def tw341449230695771907:=0
def tw13726381633421359625:=0
def tw9832365223169905477:=0
def tw525083432059334498:=0
def tw12251205279013094324:=0
def tw12603904317024530164:=0
def tw3181915825831795792:=0
def tw16075816089931046372:=0
def tw17615655186037669247:=0
def tw4603326951021459324:=0
def tw13140424685131036762:=0
def tw15767080171234983283:=0
def tw10386438663836391223:=0
def tw8791862830744516438:=0
def tw18031198751620895095:=0
def tw486653981331432147:=0
def tw11862205566681550943:=0
def tw12605877590657387025:=0
def tw14900170226346851241:=0
def tw16896111510225936866:=0
def tw6896648885207777647:=0
def tw8505595360308512562:=0
def tw10273178598491001110:=0
def tw13693736826943026329:=0
def tw2952778713991278186:=0
def tw4202324323226668762:=0
def tw13579156378234839932:=0
def tw17518807890567261479:=0
def tw11922353889921165409:=0
def tw5830303905565788786:=0
def tw9628887364609275221:=0
def tw3855237342110969401:=0
def tw2583396912130765644:=0
def tw15063601927905821779:=0
def tw17449571095390614707:=0
def tw11745514825859016133:=0
def tw12353236884987178595:=0
def tw6421479882541736716:=0
def tw5915455501535187685:=0
def tw4479973666678459199:=0
def tw5880775731577754311:=0
def tw6975648926979447462:=0
def tw15526392253379240034:=0
def tw2927927487142346075:=0
def tw15752846438785091547:=0
def tw5281103479561131297:=0
def tw7919485209826027320:=0
def tw6112738539773999109:=0
def tw4338302875775075241:=0
def tw1285843796950559855:=0
def tw1150649999121903237:=0
def tw1899311738908832711:=0
def tw10455176770513274120:=0
def tw12174827932459923861:=0
def tw11338890054245930140:=0
def tw16034115913517988786:=0
def tw1878774684125307760:=0
def tw16532005431119471689:=0
def tw98122518434317396:=0
def tw3680917304780703779:=0
def tw16643260073692145176:=0
def tw7259141373234000870:=0
def tw18185815529674320101:=0
def tw16703390568727299232:=0
def tw8198662076214308204:=0
def tw14655513485756612152:=0
def tw8455858868835955622:=0
def tw11586424137902141786:=0
def tw3308567267785379114:=0
def tw2198518771779685549:=0
def tw14486197261014574206:=0
def tw10588930668956542028:=0
def tw7628644599614232669:=0
def tw6856312897600399236:=0
def tw50889259837930622:=0
def tw12081415842077414149:=0
def tw15132767768155455846:=0
def tw17061558227956611544:=0
def tw8590967899888316796:=0
def tw16985454790979237535:=0
def tw12969081691250676379:=0
def tw11424454849997251729:=0
def tw10413807534235424935:=0
def tw3662515208543914579:=0
def tw3477447242823774259:=0
def tw15561399457747662494:=0
def tw16387300749472581730:=0
def tw14832622577494028790:=0
def tw14959859787083917683:=0
def tw14142576035107812162:=0
def tw12991920493014806928:=0
def tw8208290639543469636:=0
def tw10000313052094531356:=0
def tw6820275979504526862:=0
def tw11308848542051736502:=0
def tw10997229556265740933:=0
def tw5704229430416982259:=0
def tw17474381770238809301:=0
def tw3911512613669910101:=0
def tw3413395006867135612:=0
def tw4690337804351488360:=0
def tw4539026462439445104:=0
def tw677716565154668469:=0
def tw9063327044053667243:=0
def tw6903594686124000032:=0
def tw5760585667415615380:=0
def tw7266171329699803765:=0
def tw14306289397571457026:=0
def tw3097130912550138007:=0
def tw8252930085011946090:=0
def tw7325837096203236436:=0
def tw9521077428759857686:=0
def tw16361340367734503014:=0
def tw418611928504662069:=0
def tw17822881199528697692:=0
def tw4149719595233932271:=0
def tw10465056538564655696:=0
def tw13378244933240654614:=0
def tw8781139288143030959:=0
def tw5877375779990462621:=0
def tw2809228918640254456:=0
def tw8955487597373452721:=0
def tw18125323418465983186:=0
def tw5654195594965149134:=0
def tw7961471253952156801:=0
def tw6281868744957945593:=0
def tw6099587512948060133:=0
def tw16105394439751402195:=0
def tw2242951121711851013:=0
def tw17399503491677182743:=0
def tw9541680218020624668:=0
def tw8330193631137998855:=0
def tw15172738794827994638:=0
def tw9794241295579586675:=0
def tw2031067297639357870:=0
def tw15349980098598905387:=0
def tw13967784320282211968:=0
def tw6767504349999587630:=0
def tw11347830598168344659:=0
def tw2724004206815320096:=0
def tw16405287995709872186:=0
def tw18241779328984405508:=0
def tw4797958851227586849:=0
def tw15609157806065899409:=0
def tw10917813931774211150:=0
def tw87251921837093418:=0
def tw9494271398271238462:=0
def tw12502136670005623499:=0
def tw15636152570586198249:=0
def tw13947573127762571505:=0
def tw3191389368984916501:=0
def tw17435965991255492251:=0
def tw226184407888035964:=0
def tw5531408162591695709:=0
def tw9612007452772307294:=0
def tw4669877219740953204:=0
def tw810660427005361163:=0
def tw6311821475921376524:=0
def tw7511167212440770014:=0
def tw525862386443614190:=0
def tw8944781205193872031:=0
def tw16910877916138332051:=0
def tw9791161131129830537:=0
def tw6149488459223185683:=0
def tw5467376460045025293:=0
def tw17299297269349510857:=0
def tw15729696067907015019:=0
def tw12113911736381728621:=0
def tw13359811392909412992:=0
def tw15077953353042113070:=0
def tw15982714690621891461:=0
def tw5135083474114082933:=0
def tw8189178207156251190:=0
def tw404686048482889252:=0
def tw7235650724726906718:=0
def tw4211526586520264290:=0
def tw13982774676563918708:=0
def tw8663031813855314497:=0
def tw2170682908328782789:=0
def tw18278755865427040099:=0
def tw11671705524655376885:=0
def tw2778663731977290168:=0
def tw99328282005815184:=0
def tw15754876617435399424:=0
def tw947622529837705499:=0
def tw7557972925122314436:=0
def tw8676418304319371653:=0
def tw7706830726478630186:=0
def tw17229894232880516324:=0
def tw14906670736226706402:=0
def tw10334657339424624268:=0
def tw2972925833878578817:=0
def tw10734425195970806537:=0
def tw12496302810739069824:=0
def tw8095686320906095676:=0
def tw1265905801102053571:=0
def tw13404533161139688279:=0
def tw16236738541653673764:=0
def tw14784025813349417074:=0
def tw4331396956343719641:=0
def tw8760647555504582955:=0
def tw10254651789777929067:=0
def tw6012655361746211454:=0
def tw15084290354357189685:=0
def tw1364685925227514055:=0
def tw14390092524241594692:=0
def tw5130920148884879197:=0
def tw443309018295544173:=0
def tw3763090302873808364:=0
def tw2944952915301465354:=0
def tw15988766568513938974:=0
def tw16288105883199621595:=0
def tw4441248223675533935:=0
def tw15808963297190246617:=0
def tw12633484171599329503:=0
def tw8719018832341413477:=0
def tw17798990394198554086:=0
def tw1240384029261694267:=0
def tw871170256358474846:=0
def tw2538051298685407652:=0
def tw13655260891850501699:=0
def tw14637375124349519893:=0
def tw6226093482324313365:=0
def tw14711394034324325278:=0
def tw2237142167453028173:=0
def tw13489810220020818211:=0
def tw13145399023412355475:=0
def tw3188963766398556385:=0
def tw7963541976456508251:=0
def tw16737473227015890323:=0
def tw13602176351635717367:=0
def tw2474977339633050806:=0
def tw13609227146351588610:=0
def tw3697762794611646303:=0
def tw13276772785909209262:=0
def tw16359924135731552284:=0
def tw16014585650306786015:=0
def tw10407459728231200730:=0
def tw3857425480585030158:=0
def tw11551252041299992959:=0
def tw5035055797544049163:=0
def tw18415475605606228830:=0
def tw625091276836073040:=0
def tw14092257242413863645:=0
def tw10949930717780669243:=0
def tw2918434335159532803:=0
def tw14193649743984470266:=0
def tw2498551387991249258:=0
def tw13643148034625162994:=0
def tw13513154196365449552:=0
def tw14756699589661865267:=0
def tw2490098889901925986:=0
def tw12353136467601935135:=0
def tw11651202607460612125:=0
def tw11487343681869572921:=0
def tw9230145607894740448:=0
def tw11439241021022890134:=0
def tw13857364098021466361:=0
def tw16160973764695795007:=0
def tw10168205013476768128:=0
def tw10017361936262464133:=0
def tw12752672584833644248:=0
def tw17942978584343163546:=0
def tw9773032183481364576:=0
def tw14379307331662612675:=0
def tw6382131792258630767:=0
def tw13495037012230011477:=0
def tw17261536973112289777:=0
def tw15878342964522944488:=0
def tw433750611213600734:=0
def tw5557431013242864730:=0
def tw17808747113720365992:=0
def tw7516087328481584827:=0
def tw9267344504207173675:=0
def tw14879426685857890494:=0
def tw2873944149922966155:=0
def tw13554343007248936974:=0
def tw1247728586253883973:=0
def tw16076060166635092080:=0
def tw6868193298707861563:=0
def tw7109206135624003189:=0
def tw16494725655079100152:=0
def tw8945327233187755621:=0
def tw6936578324519126911:=0
def tw8221665123488710259:=0
def tw16980964246571660785:=0
def tw6134063680810278245:=0
def tw3649252435774195716:=0
def tw13785467107938312062:=0
def tw4710366699543106655:=0
def tw3311847983343980075:=0
def tw2875332526414807087:=0
def tw12254193838143288263:=0
def tw791735226289904570:=0
def tw15307951622636008317:=0
def tw16578586575532830806:=0
def tw2478130206844771461:=0
def tw1254612176841828834:=0
def tw14731178901789278602:=0
def tw965793727721653346:=0
def tw10373921355496352598:=0
def tw5445092966107305520:=0
def tw5959781029588956238:=0
def tw16174892828890589:=0
def tw2254927145884371385:=0
def tw11081263301762464012:=0
def tw10745433503118863083:=0
def tw13594545270237032626:=0
def tw10159575881276908063:=0
def tw6047011015266597146:=0
def tw10049375812092708940:=0
def tw707403309190867847:=0
def tw4583224224985575419:=0
def tw16421407435456005726:=0
def tw1709608520197777395:=0
def tw12742332526327106171:=0
def tw13184324557433610995:=0
def tw10366178190405692978:=0
def tw11703984636929028853:=0
def tw1505948579581912075:=0
def tw68717439852936521:=0
def tw3556046926103046535:=0
def tw16127071340074990482:=0
def tw10008624947751942781:=0
def tw8615308993005337894:=0
def tw3055931505151706403:=0
def tw5845756066062751578:=0
def tw7360274218611827866:=0
def tw14209454021137819467:=0
def tw13862945536137582114:=0
def tw10499164078443750522:=0
def tw11616133734153082035:=0
def tw6233520861437181805:=0
def tw18033582044522989226:=0
def tw13761674283964880640:=0
def tw416032561306373162:=0
def tw16899944623306018182:=0
def tw1307483392820803723:=0
def tw10604006789414932212:=0
def tw7540445967344302491:=0
def tw2045176109336617793:=0
def tw4347392226185680397:=0
def tw1907417755128015152:=0
def tw14079583573284312280:=0
def tw10470827256986090655:=0
def tw6952692422442238814:=0
def tw8703758622538945897:=0
def tw4689972035573651047:=0
def tw5105473105079428926:=0
def tw883201221016376806:=0
def tw17555536093135358721:=0
def tw11288656533850451428:=0
def tw9379507434741800144:=0
def tw12653122793091546071:=0
def tw17466397298358055818:=0
def tw4936833984573315269:=0
def tw390599685309165608:=0
def tw31080036141836495:=0
def tw14687877748690029117:=0
def tw6059635540828236733:=0
def tw6442420225884837489:=0
def tw4857623294124735430:=0
def tw10964777388630972868:=0
def tw14583454768040655251:=0
def tw1762603423095976257:=0
def tw180737356550631917:=0
def tw10825203636211316771:=0
def tw3962433232900844646:=0
def tw16148724224102217752:=0
def tw5351800787042049766:=0
def tw4926854630790381330:=0
def tw1286391722384858004:=0
def tw11197756493439340665:=0
def tw17762332822865235466:=0
def tw16914768238099176333:=0
def tw2160679715931973055:=0
def tw8156547904236280901:=0
def tw5990800009860517957:=0
def tw14793002940345745182:=0
def tw11792695948956420745:=0
def tw7228567827030024868:=0
def tw13572773073325276622:=0
def tw11216768519026764206:=0
def tw4371619982023515770:=0
def tw5796660769089589394:=0
def tw2829113546922452073:=0
def tw5876471319971173912:=0
def tw9197289284482046795:=0
def tw13034683178903667125:=0
def tw18367849869888270707:=0
def tw1176880443483596658:=0
def tw4174553145899942264:=0
def tw2632254674219504088:=0
def tw320937594357854377:=0
def tw7667291236754906122:=0
def tw7817312055632376798:=0
def tw9410685456209514875:=0
def tw8766122342399481344:=0
def tw15032007834689020302:=0
def tw9743781350470440362:=0
def tw7226646027167411443:=0
def tw14185109853074165793:=0
def tw17802921680482825937:=0
def tw16963544425054114241:=0
def tw10901620023182448880:=0
def tw18250484181837721006:=0
def tw17743384372682098867:=0
def tw16136449238878335959:=0
def tw14851431573887682271:=0
def tw4633018857807838325:=0
def tw11687411326380837512:=0
def tw12121045129782550819:=0
def tw9819428560372572115:=0
def tw2133135945872432716:=0
def tw11311973951246321930:=0
def tw2161421221915966040:=0
def tw4556652540848290527:=0
def tw14546749515048051661:=0
def tw3070635904069791189:=0
def tw9996631570028590783:=0
def tw16908526478560212075:=0
def tw534967976256469100:=0
def tw6732657441904057415:=0
def tw7827504534219836101:=0
def tw13675651334810852328:=0
def tw14794630652157065228:=0
def tw5159346841114355201:=0
def tw5433144005162910655:=0
def tw9977210443596211211:=0
def tw8334574006248450246:=0
def tw18263359274100845087:=0
def tw15741078311147067127:=0
def tw8883728755357051788:=0
def tw15209624650934177136:=0
def tw17978070710454177788:=0
def tw15610661312276929009:=0
def tw14646673620070440615:=0
def tw14611646839315468230:=0
def tw12036886930373952758:=0
def tw15684390440960805372:=0
def tw10058515553062339090:=0
def tw7920459677619444629:=0
def tw15422642105974177145:=0
def tw3842361557221715264:=0
def tw18285516087648862106:=0
def tw1307799248339882468:=0
def tw10088827490130150036:=0
def tw10702117146266149380:=0
def tw6130922565218649303:=0
def tw5097098001903940253:=0
def tw2351605668328835027:=0
def tw3416036507298568190:=0
def tw16666926066831799299:=0
def tw1194910646475780604:=0
def tw17013167848738176870:=0
def tw9457876590304853144:=0
def tw10761055166022503298:=0
def tw1282634956909728735:=0
def tw8888016614254936574:=0
def tw3359377911794834093:=0
def tw12859372483868719090:=0
def tw5587569287394281585:=0
def tw2369639234838245576:=0
def tw30519069061528716:=0
def tw877754707282299475:=0
def tw14989452828010398448:=0
def tw15963679239231772001:=0
def tw2672960417578857536:=0
def tw8854228493701600854:=0
def tw11397530944305768868:=0
def tw8778987723389386754:=0
def tw13235918554398693896:=0
def tw6096729557611888528:=0
def tw12854100002487477688:=0
def tw10640999021595432536:=0
def tw13684568242753712591:=0
def tw8535293731501919973:=0
def tw6226547033480417425:=0
end PySem.W.Fast
namespace Lw
open L3 PySem
def tbT:List Str:=[]
def zTl:List (Str×List Str):=[]
def eZ:D:=(.tup [(.int 0),(.int 1)])
def aW:List (Str×Str):=[("row","back"),("back","row"),("even","lack"),("lack","even"),("part","part"),("half","half")]
def d_WEIGHTED:D:=(.tup [(.str "even"),(.str "lack")])
def d_HALF:D:=(.tup [(.int 1),(.int 2)])
def d_BOAT:D:=(.str "boat")
def d_ACROSS:D:=(.int 0)
def d_UP:D:=(.int 1)
abbrev qZ:Sv:=(cW 1 (aG 2))
abbrev qB:Sv:=(aX (cW 0 (aG 1)) qZ)
abbrev qQ:Sv:=(aX (cW 2 (eOp tT (aG 0) (aG 1))) qB)
abbrev qC:Sv:=(fR (aG 0))
abbrev qD:Sv:=(aX (eU (dD (eOp oNe (aG 1) (eC (.int 0)))) qQ) qC)
abbrev qA:Sv:=(aX (cW 1 (eB zMo (aD (aG 1) aNil))) qD)
def dQ:Mir:=fn 2 3 (aX (cW 0 (eB zMo (aD (aG 0) aNil))) qA)
def bL:Mir:=fn 1 1 (fR (uK (aD (aG 0) (aD (eC (.int 1)) aNil))))
def fJ:Mir:=fn 2 2 (fR (eOp oLt (eOp oV (eOp oIx (aG 0) (eC (.int 0))) (eOp oIx (aG 1) (eC (.int 1)))) (eOp oV (eOp oIx (aG 1) (eC (.int 0))) (eOp oIx (aG 0) (eC (.int 1))))))
abbrev yV:Sv:=(cW 1 (eOp oV (aG 1) (eOp oIx (aG 2) (eC (.int 1)))))
abbrev zDz:Sv:=(cW 1 (eC (.int 1)))
abbrev wG:Sv:=(wF (qK (aG 0)) (gName 2) yV)
def jZ:List D->Res (List Int):=zBE zDz wG
def eG:Mir:=fn 1 1 (sIf (dD (eUn (sO aW) (aG 0))) (jV "BadWay" (aD (eC (.str "no such way")) aNil)) sNext)
abbrev sF:Sv:=(sIf (dD (eOp oLt (aG 1) (eC (.int 0)))) (jV "BadClaim" (aD (eC (.str "a claim is below nought")) aNil)) sNext)
abbrev sL:Sv:=(wF (qK (aG 0)) (gName 1) sF)
def eD:Mir:=fn 1 2 (aX (sIf (dD (eOp oEq (eB kU (aD (aG 0) aNil)) (eC (.int 0)))) (jV "BadClaim" (aD (eC (.str "there is no claim")) aNil)) sNext) sL)
abbrev qT:Sv:=(sIf (zGi (dD (eOp oLt (aG 4) (eC (.int 1)))) (dD (eOp oGt (aG 4) (eOp zMb (eC (.int 10)) (eC (.int 6)))))) (jV "BadWeights" (aD (eC (.str "a weight is not from 1 to 10 ** 6")) aNil)) sNext)
abbrev qX:Sv:=(wF (qK (aG 1)) (gName 4) qT)
abbrev qS:Sv:=(aX (sIf (dD (eOp oNe (eB kU (aD (aG 1) aNil)) (aG 3))) (jV "BadWeights" (aD (eC (.str "more or fewer weights than are due")) aNil)) sNext) qX)
def bT:Mir:=fn 3 5 (aX (cW 3 (eIf (dD (eOp oIn (aG 0) (eC d_WEIGHTED))) (aG 2) (eC (.int 0)))) qS)
def cD:Mir:=fn 1 1 (fR (eOp oEq (eOp oIx (aG 0) (eC (.int 0))) (eC d_BOAT)))
def iX:Mir:=fn 1 1 (fR (eOp oIx (aG 0) (eC (.int 0))))
def dA:Mir:=fn 1 1 (fR (eOp oIx (aG 0) (eC (.int 1))))
def lD:Mir:=fn 1 1 (fR (eOp oIx (eOp oIx (aG 0) (eUn zB (eC (.int 1)))) (eC d_ACROSS)))
def qJ:Mir:=fn 1 1 (fR (eOp oIx (eOp oIx (aG 0) (eUn zB (eC (.int 1)))) (eC d_UP)))
def oF:Mir:=fn 1 1 (iF (jR (qK (aG 0)) jK (eOp oIx (aG 1) (eC d_ACROSS))))
abbrev uX:Sv:=(fR (eC (.int 0)))
def fZ:Mir:=fn 2 2 (aX (sIf (dD (eOp oLt (aG 1) (eB kU (aD (aG 0) aNil)))) (fR (eOp oIx (aG 0) (aG 1))) sNext) uX)
abbrev zCx:Sv:=(cW 3 (aG 4))
abbrev zCJ:Sv:=(aX (cW 2 (aG 3)) zCx)
abbrev zDl:Sv:=(aX (cW 4 (eOp tT (aG 2) (aG 3))) zCJ)
abbrev zCS:Sv:=(fR (uK (aD (eOp rH (aG 0) (aG 2)) (aD (eOp rH (aG 1) (aG 2)) aNil))))
abbrev tJ:Sv:=(aX (sIf (dD (eOp oLt (aG 1) (eC (.int 0)))) (cW 2 (eOp tM (eC (.int 0)) (aG 2))) sNext) zCS)
abbrev zCk:Sv:=(aX (eU (dD (eOp oGt (aG 3) (eC (.int 0)))) zDl) tJ)
abbrev zCU:Sv:=(aX (cW 3 (eB zMo (aD (aG 1) aNil))) zCk)
def cP:Mir:=fn 2 5 (aX (cW 2 (eB zMo (aD (aG 0) aNil))) zCU)
def fM:Mir:=fn 2 2 (fR (eOp oLt (eOp oV (eOp oIx (aG 0) (eC (.int 0))) (eOp oIx (aG 1) (eC (.int 1)))) (eOp oV (eOp oIx (aG 1) (eC (.int 0))) (eOp oIx (aG 0) (eC (.int 1))))))
def nD:Mir:=fn 2 2 (fR (eOp tT (eOp uB (eOp uB (eOp oV (aG 0) (eC (.int 48271))) (eOp oV (eC (.int 7919)) (aG 1))) (eC (.int 23))) (eC (.int 2147483647))))
abbrev zDd:Sv:=(cW 4 (eB zKV (aD (eF (jR (zQ (aD (eB kU (aD (aG 0) aNil)) aNil)) jK (eOp uB (eC (.int 1)) (eOp tT (eOp rH (eOp tT (eOp zMb (eOp uB (eOp uB (aG 1) (eOp oV (eC (.int 40692)) (aG 6))) (eC (.int 1))) (eC (.int 2))) (eC (.int 998244353))) (eC (.int 7))) (aG 5))))) aNil)))
abbrev zDm:Sv:=(fR (uK (aD (aG 3) (aD (aG 4) (aD (eB zKV (aD (aG 0) aNil)) aNil)))))
abbrev zCI:Sv:=(aX (sIf (dD (eOp oIn (aG 3) (uK (aD (eC (.str "even")) (aD (eC (.str "lack")) aNil))))) (aX (cW 5 (eOp oIx (eF (mK (aD (eC (.int 5)) (aD (eOp zMb (eC (.int 10)) (eC (.int 6))) aNil)))) (eOp rH (eOp tT (eOp rH (aG 2) (eC (.int 3))) (eC (.int 3))) (eC (.int 2))))) zDd) sNext) zDm)
abbrev zDk:Sv:=(aX (cW 4 (uK aNil)) zCI)
def eP:Mir:=fn 3 6 (aX (cW 3 (eOp oIx (eF (mK (aD (eC (.str "row")) (aD (eC (.str "back")) (aD (eC (.str "even")) (aD (eC (.str "lack")) (aD (eC (.str "part")) (aD (eC (.str "half")) aNil)))))))) (eOp tT (eOp rH (aG 1) (eC (.int 7))) (eC (.int 6))))) zDk)
abbrev zKq:Sv:=(fR (uK (aD (eOp rH (aG 0) (aG 2)) (aD (eOp rH (aG 1) (aG 2)) aNil))))
abbrev zKD:Sv:=(aX (sIf (dD (eOp oLt (aG 1) (eC (.int 0)))) (cW 2 (eUn zB (aG 2))) sNext) zKq)
abbrev zKW:Sv:=(aX (cW 2 (aP dQ (aD (aG 0) (aD (aG 1) aNil)))) zKD)
def jH:Mir:=fn 2 3 (aX (sIf (dD (eOp oEq (aG 1) (eC (.int 0)))) (jV "NoFraction" (aD (eC (.str "the bottom is nought")) aNil)) sNext) zKW)
def lP:Mir:=fn 2 2 (fR (eIf (dD (aP fJ (aD (aG 0) (aD (aG 1) aNil)))) (aG 0) (aG 1)))
def eE:Mir:=fn 2 2 (fR (eOr (aP fJ (aD (aG 0) (aD (eC eZ) aNil))) (aP fJ (aD (aG 1) (aD (aG 0) aNil)))))
abbrev zGS:Sv:=(tX (aP bT (aD (aG 0) (aD (aG 1) (aD (eB kU (aD (aG 2) aNil)) aNil)))))
abbrev zHe:Sv:=(aX (tX (aP eD (aD (aG 2) aNil))) zGS)
def lN:Mir:=fn 3 3 (aX (tX (aP eG (aD (aG 0) aNil))) zHe)
abbrev tN:Sv:=(fR (eUn (vD aW) (aG 0)))
def dR:Mir:=fn 1 1 (aX (tX (aP eG (aD (aG 0) aNil))) tN)
def dC:Mir:=fn 1 1 (fR (eIf (dD (aP cD (aD (aG 0) aNil))) (uK aNil) (eOp oIx (aG 0) (eC (.int 2)))))
abbrev uY:Sv:=(sIf (dD (aP fJ (aD (eOp oIx (aG 3) (eC d_UP)) (aD (eOp oIx (aG 2) (eC d_UP)) aNil)))) (jV "BadLine" (aD (eC (.str "a y is less than the one ahead")) aNil)) sNext)
abbrev yI:Sv:=(aX (sIf (qU (dD (aP fJ (aD (eOp oIx (aG 2) (eC d_ACROSS)) (aD (eOp oIx (aG 3) (eC d_ACROSS)) aNil))))) (jV "BadLine" (aD (eC (.str "an x is not greater than the one ahead")) aNil)) sNext) uY)
abbrev xE:Sv:=(aX (cW 3 (eOp oIx (aG 0) (aG 1))) yI)
abbrev yE:Sv:=(aX (cW 2 (eOp oIx (aG 0) (eOp tM (aG 1) (eC (.int 1))))) xE)
abbrev yK:Sv:=(wF (zEx (aD (eC (.int 1)) (aD (eB kU (aD (aG 0) aNil)) aNil))) (gName 1) yE)
abbrev yM:Sv:=(aX (sIf (dD (eOp oNe (eOp oIx (aG 0) (eC (.int 0))) (uK (aD (eC eZ) (aD (eC eZ) aNil))))) (jV "BadLine" (aD (eC (.str "the first point is not nought and nought")) aNil)) sNext) yK)
def iG:Mir:=fn 1 4 (aX (sIf (dD (eOp oEq (eB kU (aD (aG 0) aNil)) (eC (.int 0)))) (jV "BadLine" (aD (eC (.str "a line has a point")) aNil)) sNext) yM)
abbrev pZ:Sv:=(sIf (dD (aP fJ (aD (eOp oIx (eOp oIx (aG 0) (aG 5)) (aG 1)) (aD (aG 2) aNil)))) (cW 3 (eOp uB (aG 5) (eC (.int 1)))) (cW 4 (aG 5)))
abbrev qO:Sv:=(aX (cW 5 (eOp rH (eOp uB (aG 3) (aG 4)) (eC (.int 2)))) pZ)
abbrev jW:Sv:=(fR (aG 3))
abbrev rF:Sv:=(aX (eU (dD (eOp oLt (aG 3) (aG 4))) qO) jW)
abbrev pP:Sv:=(aX (cW 4 (eOp tM (eB kU (aD (aG 0) aNil)) (eC (.int 1)))) rF)
def dP:Mir:=fn 3 6 (aX (cW 3 (eC (.int 0))) pP)
abbrev zGm:Sv:=(zKm 3 zAx (eC (.int 1)))
abbrev zGD:Sv:=(aX (zFl 2 (eOp oIx (aG 1) (aG 3))) zGm)
abbrev zGY:Sv:=(zFl 2 (aG 4))
abbrev rJ:Sv:=(aX (sIf (zAf (dD (eOp oLt (aG 3) (eB kU (aD (aG 1) aNil)))) (dD (eOp oEq (eOp oIx (aG 1) (aG 3)) (aG 4)))) (zKm 3 zAx (eC (.int 1))) sNext) zGY)
abbrev zGy:Sv:=(aX (eU (zAf (dD (eOp oLt (aG 3) (eB kU (aD (aG 1) aNil)))) (dD (aP fJ (aD (eOp oIx (aG 1) (aG 3)) (aD (aG 4) aNil))))) zGD) rJ)
abbrev zEu:Sv:=(fU 2)
abbrev zEo:Sv:=(aX (zKN 2 (fSl (aG 1) (oS (aG 3)) oN)) zEu)
abbrev zGt:Sv:=(aX (wF (qK (aG 0)) (gName 4) zGy) zEo)
abbrev zGB:Sv:=(aX (cW 3 (eC (.int 0))) zGt)
def rC:Mir:=fn 2 5 (aX (zBc 2 (mK aNil)) zGB)
abbrev xM:Sv:=(zFl 2 (aP bL (aD (aG 1) aNil)))
abbrev oK:Sv:=(aX (zKm 1 zAx (aG 3)) xM)
abbrev xX:Sv:=(fU 2)
abbrev yC:Sv:=(aX (wF (qK (aG 0)) (gName 3) oK) xX)
abbrev xW:Sv:=(aX (zBc 2 (mK (aD (eC eZ) aNil))) yC)
def fO:Mir:=fn 1 4 (aX (cW 1 (eC (.int 0))) xW)
abbrev jG:Sv:=(sIf (tFrzB (dD (aP fJ (aD (eOp oIx (aG 1) (eUn zB (eC (.int 1)))) (aD (aG 2) aNil))))) (zFl 1 (aG 2)) sNext)
abbrev pB:Sv:=(fU 1)
abbrev pL:Sv:=(aX (wF (qK (aG 0)) (gName 2) jG) pB)
def dF:Mir:=fn 1 3 (aX (zBc 1 (fSl (aG 0) oN (oS (eC (.int 1))))) pL)
def lA:Mir:=fn 2 2 (fR (aP cP (aD (eOp uB (eOp oV (eOp oIx (aG 0) (eC (.int 0))) (eOp oIx (aG 1) (eC (.int 1)))) (eOp oV (eOp oIx (aG 1) (eC (.int 0))) (eOp oIx (aG 0) (eC (.int 1))))) (aD (eOp oV (eOp oIx (aG 0) (eC (.int 1))) (eOp oIx (aG 1) (eC (.int 1)))) aNil))))
def cA:Mir:=fn 2 2 (fR (aP cP (aD (eOp tM (eOp oV (eOp oIx (aG 0) (eC (.int 0))) (eOp oIx (aG 1) (eC (.int 1)))) (eOp oV (eOp oIx (aG 1) (eC (.int 0))) (eOp oIx (aG 0) (eC (.int 1))))) (aD (eOp oV (eOp oIx (aG 0) (eC (.int 1))) (eOp oIx (aG 1) (eC (.int 1)))) aNil))))
def cT:Mir:=fn 2 2 (fR (aP cP (aD (eOp oV (eOp oIx (aG 0) (eC (.int 0))) (eOp oIx (aG 1) (eC (.int 0)))) (aD (eOp oV (eOp oIx (aG 0) (eC (.int 1))) (eOp oIx (aG 1) (eC (.int 1)))) aNil))))
abbrev pD:Sv:=(sIf (zGi (qU (dD (zMm "int" (aG 1)))) (dD (zMm "bool" (aG 1)))) (fR (eC (.bl false))) sNext)
abbrev pF:Sv:=(fR (zRe (eOp oGt (eOp oIx (aG 0) (eC (.int 1))) (eC (.int 0))) (eOp oEq (aP cP (aD (eOp oIx (aG 0) (eC (.int 0))) (aD (eOp oIx (aG 0) (eC (.int 1))) aNil))) (aG 0))))
abbrev pH:Sv:=(aX (wF (qK (aG 0)) (gName 1) pD) pF)
def cM:Mir:=fn 1 2 (aX (sIf (zGi (qU (dD (zMm "tuple" (aG 0)))) (dD (eOp oNe (eB kU (aD (aG 0) aNil)) (eC (.int 2))))) (fR (eC (.bl false))) sNext) pH)
def mF:Mir:=fn 2 2 (fR (aP jH (aD (eOp uB (eOp oV (eOp oIx (aG 0) (eC (.int 0))) (eOp oIx (aG 1) (eC (.int 1)))) (eOp oV (eOp oIx (aG 1) (eC (.int 0))) (eOp oIx (aG 0) (eC (.int 1))))) (aD (eOp oV (eOp oIx (aG 0) (eC (.int 1))) (eOp oIx (aG 1) (eC (.int 1)))) aNil))))
def cV:Mir:=fn 2 2 (fR (aP jH (aD (eOp tM (eOp oV (eOp oIx (aG 0) (eC (.int 0))) (eOp oIx (aG 1) (eC (.int 1)))) (eOp oV (eOp oIx (aG 1) (eC (.int 0))) (eOp oIx (aG 0) (eC (.int 1))))) (aD (eOp oV (eOp oIx (aG 0) (eC (.int 1))) (eOp oIx (aG 1) (eC (.int 1)))) aNil))))
def dN:Mir:=fn 2 2 (fR (aP jH (aD (eOp oV (eOp oIx (aG 0) (eC (.int 0))) (eOp oIx (aG 1) (eC (.int 0)))) (aD (eOp oV (eOp oIx (aG 0) (eC (.int 1))) (eOp oIx (aG 1) (eC (.int 1)))) aNil))))
def qP:Mir:=fn 2 2 (fR (aP jH (aD (eOp oV (eOp oIx (aG 0) (eC (.int 0))) (eOp oIx (aG 1) (eC (.int 1)))) (aD (eOp oV (eOp oIx (aG 0) (eC (.int 1))) (eOp oIx (aG 1) (eC (.int 0)))) aNil))))
def bH:Mir:=fn 2 2 (sIf (dD (aP eE (aD (aG 0) (aD (aG 1) aNil)))) (jV "Outside" (aD (eC (.str "below nought, or more than there can be")) aNil)) sNext)
def eH:Mir:=fn 2 2 (iF (uM (zLt (aD (aG 1) (aD (aG 0) aNil))) (aP jH (aD (aG 2) (aD (aG 3) aNil)))))
abbrev xS:Sv:=(cW 3 (eOp oEq (aP cT (aD (aG 5) (aD (aG 6) aNil))) (aP cT (aD (aG 7) (aD (aG 4) aNil)))))
abbrev xI:Sv:=(aX (cW 7 (aP cA (aD (eOp oIx (eOp oIx (aG 0) (eOp uB (aG 2) (eC (.int 1)))) (eC (.int 1))) (aD (eOp oIx (eOp oIx (aG 0) (aG 2)) (eC (.int 1))) aNil)))) xS)
abbrev wW:Sv:=(aX (cW 6 (aP cA (aD (eOp oIx (eOp oIx (aG 0) (eOp uB (aG 2) (eC (.int 1)))) (eC (.int 0))) (aD (eOp oIx (eOp oIx (aG 0) (aG 2)) (eC (.int 0))) aNil)))) xI)
abbrev xF:Sv:=(aX (cW 5 (aP cA (aD (eOp oIx (eOp oIx (aG 0) (aG 2)) (eC (.int 1))) (aD (eOp oIx (eOp oIx (aG 0) (eOp tM (aG 2) (eC (.int 1)))) (eC (.int 1))) aNil)))) wW)
abbrev fV:Sv:=(sIf (qU (dD (aG 3))) (zFl 1 (eOp oIx (aG 0) (aG 2))) sNext)
abbrev xK:Sv:=(aX (sIf (dD (eOp oLt (eOp uB (aG 2) (eC (.int 1))) (eB kU (aD (aG 0) aNil)))) (aX (cW 4 (aP cA (aD (eOp oIx (eOp oIx (aG 0) (aG 2)) (eC (.int 0))) (aD (eOp oIx (eOp oIx (aG 0) (eOp tM (aG 2) (eC (.int 1)))) (eC (.int 0))) aNil)))) xF) sNext) fV)
abbrev xH:Sv:=(aX (cW 3 (eC (.bl false))) xK)
abbrev vG:Sv:=(fR (eB zKV (aD (aG 1) aNil)))
abbrev xD:Sv:=(aX (wF (zEx (aD (eC (.int 1)) (aD (eB kU (aD (aG 0) aNil)) aNil))) (gName 2) xH) vG)
def iA:Mir:=fn 1 8 (aX (zBc 1 (mK (aD (eOp oIx (aG 0) (eC (.int 0))) aNil))) xD)
abbrev zAM:Sv:=(fR (aP lA (aD (eOp oIx (eOp oIx (aG 0) (eOp tM (aG 2) (eC (.int 1)))) (eC (.int 1))) (aD (aP cT (aD (aG 5) (aD (aG 4) aNil))) aNil))))
abbrev zBG:Sv:=(aX (cW 5 (aP cT (aD (aP cA (aD (aG 1) (aD (eOp oIx (eOp oIx (aG 0) (eOp tM (aG 2) (eC (.int 1)))) (eC (.int 0))) aNil))) (aD (uK (aD (eOp oIx (aG 3) (eC (.int 1))) (aD (eOp oIx (aG 3) (eC (.int 0))) aNil))) aNil)))) zAM)
abbrev zBf:Sv:=(aX (cW 4 (aP cA (aD (eOp oIx (eOp oIx (aG 0) (aG 2)) (eC (.int 1))) (aD (eOp oIx (eOp oIx (aG 0) (eOp tM (aG 2) (eC (.int 1)))) (eC (.int 1))) aNil)))) zBG)
abbrev zBv:Sv:=(sIf (zAf (dD (eOp oGt (aG 2) (eC (.int 0)))) (dD (aP fM (aD (aG 1) (aD (eOp oIx (eOp oIx (aG 0) (aG 2)) (eC (.int 0))) aNil))))) (aX (cW 3 (aP cA (aD (eOp oIx (eOp oIx (aG 0) (aG 2)) (eC (.int 0))) (aD (eOp oIx (eOp oIx (aG 0) (eOp tM (aG 2) (eC (.int 1)))) (eC (.int 0))) aNil)))) zBf) sNext)
abbrev zAR:Sv:=(aX (sIf (dD (eOp oEq (eOp oIx (eOp oIx (aG 0) (aG 2)) (eC (.int 0))) (aG 1))) (fR (eOp oIx (eOp oIx (aG 0) (aG 2)) (eC (.int 1)))) sNext) zBv)
abbrev zAj:Sv:=(fR (eOp oIx (eOp oIx (aG 0) (eUn zB (eC (.int 1)))) (eC (.int 1))))
def fI:Mir:=fn 2 6 (aX (wF (zQ (aD (eB kU (aD (aG 0) aNil)) aNil)) (gName 2) zAR) zAj)
abbrev zY:Sv:=(fR (aG 4))
abbrev zAE:Sv:=(aX (sIf (dD (eOp oEq (eOp tT (eOp rH (aG 2) (eC (.int 5))) (eC (.int 3))) (eC (.int 1)))) (cW 4 (eOp oIx (eOp oIx (aG 1) (eOp tT (eOp rH (aG 2) (eC (.int 11))) (eB kU (aD (aG 1) aNil)))) (eC (.int 0)))) sNext) zY)
abbrev zP:Sv:=(aX (cW 4 (aP cT (aD (eOp oIx (eOp oIx (aG 1) (eUn zB (eC (.int 1)))) (eC (.int 0))) (aD (aP cP (aD (eOp tT (eOp rH (aG 2) (eC (.int 311))) (eOp uB (aG 3) (eC (.int 1)))) (aD (aG 3) aNil))) aNil)))) zAE)
abbrev zAX:Sv:=(aX (cW 3 (eOp uB (eC (.int 1)) (eOp tT (eOp rH (aG 2) (eC (.int 7))) (eC (.int 40))))) zP)
def jI:Mir:=fn 2 5 (aX (cW 2 (eOp tT (eOp uB (eOp oV (aG 0) (eC (.int 69697))) (eC (.int 13))) (eC (.int 2147483647)))) zAX)
abbrev zAB:Sv:=(cW 2 (aP cV (aD (aG 2) (aD (aG 5) aNil))))
abbrev zAa:Sv:=(aX (zFl 3 (aG 5)) zAB)
abbrev pT:Sv:=(aX (cW 5 (aP lP (aD (aG 2) (aD (aP bL (aD (aG 4) aNil)) aNil)))) zAa)
abbrev zV:Sv:=(fU 3)
abbrev zBd:Sv:=(aX (wF (qK (aG 0)) (gName 4) pT) zV)
abbrev zAr:Sv:=(aX (zBc 3 (mK aNil)) zBd)
def gM:Mir:=fn 2 6 (aX (cW 2 (aG 1)) zAr)
abbrev yH:Sv:=(zKm 4 tM (eOp oIx (aG 0) (aG 6)))
abbrev yB:Sv:=(aX (cW 3 (zPP (aP cV (aD (aG 3) (aD (eOp oIx (aG 5) (aG 6)) aNil))))) yH)
abbrev wZ:Sv:=(aX (zRg 5 (aG 6) (aP lP (aD (aG 7) (aD (aP bL (aD (eOp oIx (aG 1) (aG 6)) aNil)) aNil)))) yB)
abbrev bY:Sv:=(aX (cW 7 (aP qP (aD (aP dN (aD (aG 3) (aD (aP bL (aD (eOp oIx (aG 0) (aG 6)) aNil)) aNil))) (aD (aP bL (aD (aG 4) aNil)) aNil)))) wZ)
abbrev kT:Sv:=(fU 5)
abbrev oP:Sv:=(zIE (aD (eF (dH eH (aD (aG 0) (aD (aG 1) aNil)))) aNil) jZ (gName 6) bY kT)
abbrev xZ:Sv:=(aX (zBc 5 (zOp (mK (aD (eC eZ) aNil)) (eB kU (aD (aG 1) aNil)))) oP)
abbrev wY:Sv:=(aX (cW 4 (eB zCE (aD (aG 0) aNil))) xZ)
def dJ:Mir:=fn 3 8 (aX (cW 3 (aG 2)) wY)
abbrev xV:Sv:=(iF (jR (qK (aG 0)) jK (aP dN (aD (aG 3) (aD (aP bL (aD (aG 4) aNil)) aNil)))))
abbrev yL:Sv:=(aX (cW 3 (aP qP (aD (aG 1) (aD (aP bL (aD (aG 2) aNil)) aNil)))) xV)
abbrev xU:Sv:=(aX (sIf (dD (eOp oEq (aG 2) (eC (.int 0)))) (iF (zOp (mK (aD (eC eZ) aNil)) (eB kU (aD (aG 0) aNil)))) sNext) yL)
def fK:Mir:=fn 2 4 (aX (cW 2 (eB zCE (aD (aG 0) aNil))) xU)
abbrev wX:Sv:=(fR (eOp oEq (aP dN (aD (aG 3) (aD (aG 6) aNil))) (aP dN (aD (aG 4) (aD (aG 5) aNil)))))
abbrev yG:Sv:=(aX (cW 6 (aP cV (aD (eOp oIx (aG 2) (eC d_ACROSS)) (aD (eOp oIx (aG 1) (eC d_ACROSS)) aNil)))) wX)
abbrev xN:Sv:=(aX (cW 5 (aP cV (aD (eOp oIx (aG 1) (eC d_ACROSS)) (aD (eOp oIx (aG 0) (eC d_ACROSS)) aNil)))) yG)
abbrev xG:Sv:=(aX (cW 4 (aP cV (aD (eOp oIx (aG 2) (eC d_UP)) (aD (eOp oIx (aG 1) (eC d_UP)) aNil)))) xN)
def hJ:Mir:=fn 3 7 (aX (cW 3 (aP cV (aD (eOp oIx (aG 1) (eC d_UP)) (aD (eOp oIx (aG 0) (eC d_UP)) aNil)))) xG)
abbrev zOb:Sv:=(fR (aP mF (aD (eOp oIx (aG 6) (aG 3)) (aD (aP dN (aD (aG 7) (aD (aP cV (aD (eOp oIx (aG 5) (aG 3)) (aD (eOp oIx (aG 6) (aG 3)) aNil))) aNil))) aNil))))
abbrev zNV:Sv:=(aX (cW 7 (aP qP (aD (aP cV (aD (aG 2) (aD (eOp oIx (aG 6) (aG 1)) aNil))) (aD (aP cV (aD (eOp oIx (aG 5) (aG 1)) (aD (eOp oIx (aG 6) (aG 1)) aNil))) aNil)))) zOb)
abbrev zNA:Sv:=(aX (cW 6 (eOp oIx (aG 0) (eOp tM (aG 4) (eC (.int 1))))) zNV)
abbrev zMV:Sv:=(aX (sIf (dD (eOp oEq (eOp oIx (aG 5) (aG 1)) (aG 2))) (fR (eOp oIx (aG 5) (aG 3))) sNext) zNA)
abbrev zOt:Sv:=(aX (cW 5 (eOp oIx (aG 0) (aG 4))) zMV)
abbrev zMH:Sv:=(aX (cW 4 (aP dP (aD (aG 0) (aD (aG 1) (aD (aG 2) aNil))))) zOt)
def uN:Mir:=fn 3 8 (aX (cW 3 (eOp tM (eC (.int 1)) (aG 1))) zMH)
abbrev wA:Sv:=(zKm 3 tM (eOp oIx (aG 0) (aG 6)))
abbrev uP:Sv:=(aX (zKm 2 zAx (eOp oIx (aG 1) (aG 6))) wA)
abbrev gB:Sv:=(aX (zFl 5 (aP mF (aD (aP bL (aD (aG 2) aNil)) (aD (aP dN (aD (eOp oIx (aG 4) (aG 6)) (aD (aP bL (aD (aG 3) aNil)) aNil))) aNil)))) uP)
abbrev nI:Sv:=(fU 5)
abbrev nN:Sv:=(zIE (aD (aG 4) aNil) jZ (gName 6) gB nI)
abbrev uV:Sv:=(aX (zBc 5 (mK (aD (eC eZ) aNil))) nN)
abbrev vO:Sv:=(aX (cW 4 (eF (dH eH (aD (aG 0) (aD (aG 1) aNil))))) uV)
abbrev vK:Sv:=(aX (cW 3 (eB zCE (aD (aG 0) aNil))) vO)
def dL:Mir:=fn 2 7 (aX (cW 2 (eC (.int 0))) vK)
def gH:Mir:=fn 2 2 (iF (jR (zKo (aG 0)) jK (aP cV (aD (aG 1) (aD (aG 2) aNil)))))
abbrev zBY:Sv:=(sIf (zGi (qU (dD (aP cM (aD (eOp oIx (aG 1) (eC (.int 0))) aNil)))) (qU (dD (aP cM (aD (eOp oIx (aG 1) (eC (.int 1))) aNil))))) (fR (eC (.bl false))) sNext)
abbrev zCD:Sv:=(aX (sIf (zGi (qU (dD (zMm "tuple" (aG 1)))) (dD (eOp oNe (eB kU (aD (aG 1) aNil)) (eC (.int 2))))) (fR (eC (.bl false))) sNext) zBY)
abbrev zDy:Sv:=(sIf (zGi (qU (dD (aP fM (aD (eOp oIx (eOp oIx (aG 0) (eOp tM (aG 2) (eC (.int 1)))) (eC (.int 0))) (aD (eOp oIx (eOp oIx (aG 0) (aG 2)) (eC (.int 0))) aNil))))) (dD (aP fM (aD (eOp oIx (eOp oIx (aG 0) (aG 2)) (eC (.int 1))) (aD (eOp oIx (eOp oIx (aG 0) (eOp tM (aG 2) (eC (.int 1)))) (eC (.int 1))) aNil))))) (fR (eC (.bl false))) sNext)
abbrev zAP:Sv:=(fR (eOp oEq (aG 0) (aP iA (aD (aG 0) aNil))))
abbrev zCo:Sv:=(aX (wF (zEx (aD (eC (.int 1)) (aD (eB kU (aD (aG 0) aNil)) aNil))) (gName 2) zDy) zAP)
abbrev zCB:Sv:=(aX (wF (qK (aG 0)) (gName 1) zCD) zCo)
def iZ:Mir:=fn 1 3 (aX (sIf (zGi (qU (dD (zMm "tuple" (aG 0)))) (zGi (dD (eOp oLt (eB kU (aD (aG 0) aNil)) (eC (.int 1)))) (dD (eOp oNe (eOp oIx (aG 0) (eC (.int 0))) (uK (aD (uK (aD (eC (.int 0)) (aD (eC (.int 1)) aNil))) (aD (uK (aD (eC (.int 0)) (aD (eC (.int 1)) aNil))) aNil))))))) (fR (eC (.bl false))) sNext) zCB)
abbrev yD:Sv:=(iF (jR (qK (eF (dH dJ (aD (aG 2) (aD (aG 0) (aD (aP mF (aD (aG 1) (aD (aG 1) aNil))) aNil)))))) jK (aP dN (aD (aG 3) (aD (eC d_HALF) aNil)))))
def fN:Mir:=fn 2 3 (aX (cW 2 (eF (zOp (mK (aD (eC (.int 1)) aNil)) (eB kU (aD (aG 0) aNil))))) yD)
abbrev wD:Sv:=(zFl 1 (aG 2))
abbrev zDU:Sv:=(aX (sIf (tFrzB (zAf (dD (eOp oGt (eB kU (aD (aG 1) aNil)) (eC (.int 1)))) (dD (aP hJ (aD (eOp oIx (aG 1) (eUn zB (eC (.int 2)))) (aD (eOp oIx (aG 1) (eUn zB (eC (.int 1)))) (aD (aG 2) aNil))))))) (zPh 1) sNext) wD)
abbrev zEt:Sv:=(fR (eB zKV (aD (aG 1) aNil)))
abbrev zEi:Sv:=(aX (wF (qK (aG 0)) (gName 2) zDU) zEt)
abbrev zEQ:Sv:=(aX (zBc 1 (mK aNil)) zEi)
def eV:Mir:=fn 1 3 (aX (tX (aP iG (aD (aG 0) aNil))) zEQ)
abbrev zJH:Sv:=(fR (aP uN (aD (aG 0) (aD (eC d_ACROSS) (aD (aG 1) aNil)))))
def rT:Mir:=fn 2 2 (aX (tX (aP bH (aD (aG 1) (aD (aP lD (aD (aG 0) aNil)) aNil)))) zJH)
abbrev zGr:Sv:=(fR (aP eV (aD (eF (jR (qK (aG 3)) jK (uK (aD (aG 4) (aD (aP rT (aD (aG 0) (aD (aP rT (aD (aG 1) (aD (aG 4) aNil))) aNil))) aNil))))) aNil)))
abbrev zGT:Sv:=(aX (cW 3 (eF (dH rC (aD (eF (dH oF (aD (aG 1) aNil))) (aD (aG 2) aNil))))) zGr)
abbrev zHa:Sv:=(aX (cW 2 (eF (jR (qK (eF (dH oF (aD (aG 0) aNil)))) jK (aP uN (aD (aG 1) (aD (eC d_UP) (aD (aG 4) aNil))))))) zGT)
def hG:Mir:=fn 2 4 (aX (sIf (dD (eOp oNe (aP lD (aD (aG 0) aNil)) (aP qJ (aD (aG 1) aNil)))) (jV "Unlike" (aD (eC (.str "the first line's length is not the second one's height")) aNil)) sNext) zHa)
def mW:Mir:=fn 3 3 (fR (aP eV (aD (eF (uM (zLt (aD (aG 0) (aD (aG 1) aNil))) (uK (aD (aG 3) (aD (eOp oIx (aG 4) (aG 2)) aNil))))) aNil)))
abbrev zBZ:Sv:=(fR (aP eV (aD (eF (mK (aD (aG 1) (aD (uK (aD (aP bL (aD (aG 0) aNil)) (aD (aP bL (aD (aG 0) aNil)) aNil))) aNil)))) aNil)))
abbrev zCZ:Sv:=(aX (sIf (dD (eOp oEq (aG 0) (eC (.int 0)))) (fR (aP eV (aD (eF (mK (aD (aG 1) aNil))) aNil))) sNext) zBZ)
def gP:Mir:=fn 1 2 (aX (cW 1 (uK (aD (eC eZ) (aD (eC eZ) aNil)))) zCZ)
abbrev xT(r:Mir):Sv:=(iF (zMM (aG 4) (eF (dH gH (aD (aG 4) (aD (aG 3) aNil))))))
abbrev xR(r:Mir):Sv:=(iF (dH gH (aD (eF (dH r (aD (aP dR (aD (aG 0) aNil)) (aD (aG 1) (aD (aG 2) aNil))))) (aD (aG 3) aNil))))
abbrev zAt(r:Mir):Sv:=(aX (sIf (dD (eOp oEq (aG 0) (eC (.str "half")))) (aX (cW 4 (eF (jR (qK (eF (dH dL (aD (eF (zOp (mK (aD (eC (.int 1)) aNil)) (eB kU (aD (aG 2) aNil)))) (aD (aG 2) aNil))))) jK (aP dN (aD (aG 5) (aD (eC d_HALF) aNil)))))) (xT r)) sNext) (xR r))
abbrev zAQ(r:Mir):Sv:=(aX (sIf (dD (eOp oEq (aG 0) (eC (.str "part")))) (iF (mK (aD (eC eZ) (aD (aG 3) aNil)))) sNext) (zAt r))
abbrev zAs(r:Mir):Sv:=(aX (sIf (dD (eOp oEq (aG 0) (eC (.str "even")))) (iF (dH dL (aD (aG 1) (aD (aG 2) aNil)))) sNext) (zAQ r))
abbrev zAD(r:Mir):Sv:=(aX (sIf (dD (eOp oEq (aG 0) (eC (.str "row")))) (iF (dH fO (aD (aG 2) aNil))) sNext) (zAs r))
def cB(r:Mir):Mir:=fn 3 5 (aX (cW 3 (aP bL (aD (eB zCE (aD (aG 2) aNil)) aNil))) (zAD r))
def bK:Nat->Mir
 | 0=>fn 3 5 sNo
 | n+1=>cB (bK n)
abbrev qF(r:Mir):Sv:=(iF (uM (zLt (aD (aG 2) (aD (aG 5) aNil))) (aP cV (aD (aP bL (aD (aG 6) aNil)) (aD (aG 7) aNil)))))
abbrev rB(r:Mir):Sv:=(aX (cW 5 (eF (dH r (aD (eUn (vD aW) (aG 0)) (aD (aG 1) (aD (aG 2) (aD (aP cV (aD (aG 4) (aD (aG 3) aNil))) aNil))))))) (qF r))
abbrev sI(r:Mir):Sv:=(aX (sIf (zAf (dD (eOp oEq (aG 0) (eC (.str "half")))) (qU (dD (aP fJ (aD (aG 4) (aD (aP mF (aD (aG 3) (aD (aG 3) aNil))) aNil)))))) (iF (dH fN (aD (aG 2) (aD (aG 3) aNil)))) sNext) (rB r))
abbrev rM(r:Mir):Sv:=(aX (sIf (dD (eOp oEq (aG 0) (eC (.str "part")))) (iF (dH fK (aD (aG 2) (aD (aG 3) aNil)))) sNext) (sI r))
abbrev sC(r:Mir):Sv:=(aX (sIf (dD (eOp oEq (aG 0) (eC (.str "even")))) (iF (dH dJ (aD (aG 1) (aD (aG 2) (aD (aG 3) aNil))))) sNext) (rM r))
abbrev rZ(r:Mir):Sv:=(aX (sIf (dD (eOp oEq (aG 0) (eC (.str "row")))) (iF (dH gM (aD (aG 2) (aD (aG 3) aNil)))) sNext) (sC r))
def aV(r:Mir):Mir:=fn 4 6 (aX (cW 4 (aP bL (aD (eB zCE (aD (aG 2) aNil)) aNil))) (rZ r))
def aR:Nat->Mir
 | 0=>fn 4 6 sNo
 | n+1=>aV (aR n)
abbrev zIG:Sv:=(iF (dH (aR 2) (aD (aG 0) (aD (aG 1) (aD (aG 2) (aD (aG 3) aNil))))))
abbrev zIs:Sv:=(aX (tX (aP bH (aD (aG 3) (aD (aP bL (aD (eB zCE (aD (aG 2) aNil)) aNil)) aNil)))) zIG)
def rN:Mir:=fn 4 4 (aX (tX (aP lN (aD (aG 0) (aD (aG 1) (aD (aG 2) aNil))))) zIs)
abbrev zBa:Sv:=(iF (jR (zQ (aD (eB kU (aD (aG 2) aNil)) aNil)) jK (aP mW (aD (aG 3) (aD (aG 4) (aD (aG 5) aNil))))))
abbrev zK:Sv:=(aX (cW 4 (eF (jR (qK (aG 3)) jK (eF (dH (aR 2) (aD (aG 0) (aD (aG 1) (aD (aG 2) (aD (aG 5) aNil))))))))) zBa)
abbrev zAU:Sv:=(aX (cW 3 (eF (dH dF (aD (eF (dH (bK 2) (aD (aG 0) (aD (aG 1) (aD (aG 2) aNil))))) aNil)))) zK)
def gK:Mir:=fn 3 5 (aX (tX (aP lN (aD (aG 0) (aD (aG 1) (aD (aG 2) aNil))))) zAU)
abbrev zBW(r:Mir):Sv:=(fR (eOp uB (eC (.int 1)) (eB zDa (aD (eF (jR (qK (eOp oIx (aG 0) (eC (.int 2)))) jK (aP r (aD (aG 1) aNil)))) aNil))))
def oC(r:Mir):Mir:=fn 1 1 (aX (sIf (dD (eOp oEq (eOp oIx (aG 0) (eC (.int 0))) (eC (.str "boat")))) (fR (eC (.int 1))) sNext) (zBW r))
def dU:Nat->Mir
 | 0=>fn 1 1 sNo
 | n+1=>oC (dU n)
abbrev zBu(r:Mir):Sv:=(zKN 1 (dH r (aD (aG 2) aNil)))
abbrev zBb(r:Mir):Sv:=(fU 1)
abbrev zBo(r:Mir):Sv:=(aX (wF (qK (eOp oIx (aG 0) (eC (.int 2)))) (gName 2) (zBu r)) (zBb r))
abbrev zAJ(r:Mir):Sv:=(aX (zBc 1 (mK aNil)) (zBo r))
def lF(r:Mir):Mir:=fn 1 3 (aX (sIf (dD (eOp oEq (eOp oIx (aG 0) (eC (.int 0))) (eC (.str "boat")))) (iF (mK (aD (eOp oIx (aG 0) (eC (.int 1))) aNil))) sNext) (zAJ r))
def gJ:Nat->Mir
 | 0=>fn 1 3 sNo
 | n+1=>lF (gJ n)
abbrev kW:Sv:=(zFl 3 (uK (aD (eC (.str "boat")) (aD (eOp oIx (eF (mK (aD (eOp tT (eOp rH (aG 6) (eC (.int 13))) (eC (.int 13))) (aD (eOp tT (eOp rH (aG 6) (eC (.int 89))) (eC (.int 4))) (aD (eOp tT (eOp rH (aG 6) (eC (.int 17))) (eOp zMb (eC (.int 10)) (eC (.int 9)))) aNil))))) (eOp tT (aG 1) (eC (.int 3)))) aNil))))
abbrev xP:Sv:=(sIf (tFrzB (zGi (zAf (dD (eOp oLt (eOp tT (eOp rH (aG 6) (eC (.int 11))) (eC (.int 3))) (eC (.int 2)))) (dD (eOp oLt (aG 4) (aG 2)))) (dD (eOp oEq (aG 3) (eF (mK aNil)))))) (aX (cW 4 (eOp uB (aG 4) (eC (.int 1)))) kW) (sIf (tFrzB (dD (eOp oLt (eB zDa (aD (eF (jR (qK (eF (fSl (aG 3) (oS (eUn zB (aG 7))) oN))) jK (aP (dU 10) (aD (aG 8) aNil)))) aNil)) (eC (.int 7))))) (zBc 3 (zOu (zMM (eF (fSl (aG 3) oN (oS (eUn zB (aG 7))))) (eF (mK (aD (aP eP (aD (eF (fSl (aG 3) (oS (eUn zB (aG 7))) oN)) (aD (eOp rH (aG 6) (eC (.int 31))) (aD (aG 1) aNil)))) aNil)))))) sNext))
abbrev xA:Sv:=(aX (cW 7 (eOp uB (eC (.int 1)) (eOp tT (eOp rH (aG 6) (eC (.int 5))) (eC (.int 4))))) xP)
abbrev oQ:Sv:=(aX (cW 6 (aP nD (aD (eOp oIx (aG 0) (aG 5)) (aD (aG 5) aNil)))) xA)
abbrev uR:Sv:=(fR (aP eP (aD (aG 3) (aD (eOp rH (aG 1) (eC (.int 9))) (aD (aG 1) aNil)))))
abbrev vB:Sv:=(aX (sIf (dD (eOp oEq (eB kU (aD (aG 3) aNil)) (eC (.int 1)))) (fR (eOp oIx (aG 3) (eC (.int 0)))) sNext) uR)
abbrev wQ:Sv:=(sFrzAt 3 (aX (sIf (dD (eOp oEq (aG 3) (eF (mK aNil)))) (fR (uK (aD (eC (.str "boat")) (aD (eOp tT (aG 1) (eC (.int 7))) aNil)))) sNext) vB))
abbrev xC:Sv:=(aX (wF (zQ (aD (eB kU (aD (aG 0) aNil)) aNil)) (gName 5) oQ) wQ)
abbrev xJ:Sv:=(aX (cW 4 (eC (.int 0))) xC)
def iB:Mir:=fn 3 8 (aX (zBc 3 (mK aNil)) xJ)
abbrev zM(r:Mir):Sv:=(zKN 1 (dH r (aD (aG 2) aNil)))
abbrev zBk(r:Mir):Sv:=(fU 1)
abbrev zBq(r:Mir):Sv:=(aX (wF (qK (aP dC (aD (aG 0) aNil))) (gName 2) (zM r)) (zBk r))
abbrev zBs(r:Mir):Sv:=(aX (zBc 1 (mK aNil)) (zBq r))
def lR(r:Mir):Mir:=fn 1 3 (aX (sIf (dD (aP cD (aD (aG 0) aNil))) (iF (mK (aD (eOp oIx (aG 0) (eC (.int 1))) aNil))) sNext) (zBs r))
def gN:Nat->Mir
 | 0=>fn 1 3 sNo
 | n+1=>lR (gN n)
def dS:Mir:=fn 1 1 (fR (eB zCE (aD (eF (dH (gN 10) (aD (aG 0) aNil))) aNil)))
def cY:Mir:=fn 1 1 (iF (jR (qK (aP dC (aD (aG 0) aNil))) jK (aP dS (aD (aG 1) aNil))))
abbrev sU(r:Mir):Sv:=(zKN 3 (dH r (aD (aG 4) (aD (aG 5) aNil))))
abbrev zCf(r:Mir):Sv:=(fU 3)
abbrev zCd(r:Mir):Sv:=(aX (wF (zLt (aD (aP dC (aD (aG 0) aNil)) (aD (aG 2) aNil))) (zIY (oH (gName 4) (oH (gName 5) zHv))) (sU r)) (zCf r))
abbrev zCO(r:Mir):Sv:=(aX (zBc 3 (mK aNil)) (zCd r))
abbrev zDu(r:Mir):Sv:=(aX (cW 2 (eF (dH rN (aD (aP iX (aD (aG 0) aNil)) (aD (aP dA (aD (aG 0) aNil)) (aD (eF (dH cY (aD (aG 0) aNil))) (aD (aG 1) aNil))))))) (zCO r))
def jB(r:Mir):Mir:=fn 2 6 (aX (sIf (dD (aP cD (aD (aG 0) aNil))) (iF (mK (aD (aG 1) aNil))) sNext) (zDu r))
def fL:Nat->Mir
 | 0=>fn 2 6 sNo
 | n+1=>jB (fL n)
abbrev tL(r:Mir):Sv:=(zKN 2 (jR (qK (eF (dH r (aD (aG 3) aNil)))) jK (aP hG (aD (aG 5) (aD (aG 4) aNil)))))
abbrev zDB(r:Mir):Sv:=(fU 2)
abbrev zCj(r:Mir):Sv:=(aX (wF (zLt (aD (aP dC (aD (aG 0) aNil)) (aD (aG 1) aNil))) (zIY (oH (gName 3) (oH (gName 4) zHv))) (tL r)) (zDB r))
abbrev zCF(r:Mir):Sv:=(aX (zBc 2 (mK aNil)) (zCj r))
abbrev zCY(r:Mir):Sv:=(aX (cW 1 (eF (dH gK (aD (aP iX (aD (aG 0) aNil)) (aD (aP dA (aD (aG 0) aNil)) (aD (eF (dH cY (aD (aG 0) aNil))) aNil)))))) (zCF r))
def jC(r:Mir):Mir:=fn 1 5 (aX (sIf (dD (aP cD (aD (aG 0) aNil))) (iF (mK (aD (aP gP (aD (aP dS (aD (aG 0) aNil)) aNil)) aNil))) sNext) (zCY r))
def eO:Nat->Mir
 | 0=>fn 1 5 sNo
 | n+1=>jC (eO n)
abbrev zGx:Sv:=(iF (dH (fL 10) (aD (aG 0) (aD (aG 1) aNil))))
def pS:Mir:=fn 2 2 (aX (tX (aP bH (aD (aG 1) (aD (aP bL (aD (aP dS (aD (aG 0) aNil)) aNil)) aNil)))) zGx)
abbrev zFq:Sv:=(sIf (tFrzB (dD (eOp oNe (aP fI (aD (eOp oIx (aG 5) (aG 11)) (aD (aG 9) aNil))) (eOp oIx (aG 10) (aG 11))))) (fR (eC (.bl false))) sNext)
abbrev zLb:Sv:=(wF (zQ (aD (eB kU (aD (aG 4) aNil)) aNil)) (gName 11) zFq)
abbrev zLd:Sv:=(aX (cW 10 (eF (dH pS (aD (aG 3) (aD (aG 9) aNil))))) zLb)
abbrev zGc:Sv:=(aX (cW 9 (zPP (aP jI (aD (aG 8) (aD (eOp oIx (aG 5) (eOp tT (eOp rH (aG 8) (eC (.int 4))) (eB kU (aD (aG 5) aNil)))) aNil))))) zLd)
abbrev zKB:Sv:=(fR (eOp oEq (eF (dH (eO 10) (aD (aG 3) aNil))) (aG 12)))
abbrev zKC:Sv:=(aX (zFl 5 (eC (.int 1))) zKB)
abbrev zFU:Sv:=(aX (cW 12 (eF (zOu (zNB (aD (aG 5) aNil))))) zKC)
abbrev zKr:Sv:=(aX (wF (qK (eF (zMM (eF (mK (aD (eC (.int 0)) aNil))) (eF (fSl (aG 0) oN (oS (eOp oIx (eF (mK (aD (eC (.int 16)) (aD (eC (.int 5)) aNil)))) (aG 2)))))))) (gName 8) zGc) zFU)
abbrev zOI:Sv:=(aX (zIx 6 7 (zLt (aD (aG 5) (aD (aG 4) aNil))) (zGi (qU (dD (aP iZ (aD (aG 6) aNil)))) (dD (eOp oNe (eOp oIx (aG 6) (eUn zB (eC (.int 1)))) (uK (aD (uK (aD (eB zCE (aD (aG 4) aNil)) (aD (eC (.int 1)) aNil))) (aD (uK (aD (aG 7) (aD (eC (.int 1)) aNil))) aNil))))))) zKr)
abbrev zOc:Sv:=(aX (sIf (tFrzB (zGi (qU (dD (zMm "list" (aG 5)))) (dD (eOp oNe (eB kU (aD (aG 5) aNil)) (eB kU (aD (aG 4) aNil)))))) (fR (eC (.bl false))) sNext) zOI)
abbrev zNX:Sv:=(aX (zBc 5 (dH (eO 10) (aD (aG 3) aNil))) zOc)
abbrev zNd:Sv:=(aX (cW 4 (eF (dH (gJ 10) (aD (aG 3) aNil)))) zNX)
abbrev zNt:Sv:=(aX (cW 3 (aP iB (aD (eF (fSl (aG 0) (oS (eC (.int 1))) (oS (eOp oIx (eF (mK (aD (eC (.int 21)) (aD (eC (.int 31)) aNil)))) (aG 2))))) (aD (aG 1) (aD (eOp oIx (eF (mK (aD (eC (.int 8)) (aD (eC (.int 12)) aNil)))) (aG 2)) aNil))))) zNd)
abbrev zOG:Sv:=(aX (cW 2 (eB zPS (aD (eOp oEq (eOp tT (eOp rH (aG 1) (eC (.int 7))) (eC (.int 4))) (eC (.int 3))) aNil))) zNt)
def zMF:Mir:=fn 1 13 (aX (cW 1 (aP fZ (aD (aG 0) (aD (eC (.int 0)) aNil)))) zOG)
end Lw
namespace Lw
open L3 PySem Fr Fq Ln
theorem c_NOUGHT:eZ=dq 0:=rfl
local macro_rules | `(tactic| symm)=>do
 let ids:Array (Lean.TSyntax `term):=(("c_NOUGHT d_WEIGHTED d_HALF d_BOAT d_ACROSS d_UP fn_at iZip_at fComp2_at chO_s oEq_s oNe_s oTabNot_s L3.start sSeq_at seqF_nx seqF_ret sSet_at setF sOwn_at ownF sRet_at retF sRetF_at retFF sRetOwn_at retS sRetN sIf_at ifF_t ifF_f sNext sNo sDrop_at dropF dropG eVar_at varS eC eOp_at opF eUn eCall_at callF rtF eB eTup_at tupF aCons_at consF consG aNil tVal_at blF tNotB_at notF tAndB_at tandF_t tandF_f tOrB_at torF_t torF_f eAnd_at andF_t andF_f eOr_at orF_t orF_f eIf_at eifF_t eifF_f eF_at efF fLst_at fLstF fCall_at fcallF rtFF fList_at fListF_l fListF_t fComp_at fRep_at repF fCat_at catF catG eFrz_at frzF fFrz_at fFrzF oN oS_at oSF fSl_at fSlF fSlG fSlH isNon sApp_at appS appF sExt_at extS extF sAug_at augS augF setG sUnp_at unpF nxF bSum_l bSum_t gTup_at gtF_t gCons_at gNil_at gName sFor_at forF iRevL_at revL_l iSeq_at seqD_l seqD_t iRng1_at iRng2_at sFrz sFrzAt frzAt tFrzB okb erb Rt.d fin oAdd_i oAddI_i oSub_i oMul_i oDiv_i oMod_i oPow_i oEq_i oNe_i oLt_i oLe_i oGt_i oGe_i oIx_tc sPop_at popS dp_mk ty_dp len_dp ix_dp0 ix_dp1 dep_dp noL_dp oEq_dp oNe_dp noLs_dps oNeg_i oNot_b bAbs_i bLen_t bLen_l bMin_i bTup_t bTup_l eIsT_at isTF isT ty_i ty_t ty_l ty_b ty_s ty_n ofO_some atD sRaise_at raiseF Sl.frz noErr dep depS noL noLs Qs Vp Xr VA QK List.replicate Qn Xf List.getElem?_cons_zero List.getElem?_cons_succ List.set_cons_zero List.set_cons_succ Nat.reduceAdd Nat.reduceSub Nat.reduceLeDiff Nat.reduceEqDiff VB V4 Nat.max_self QZ if_true ite_true ite_false if_false VQ Bool.not_true Bool.not_false reduceIte ite_self Int.toNat_zero Int.reduceToNat Int.reduceLE Int.reduceLT V7 decide_true decide_false Bool.or_true Bool.or_false Bool.true_or Bool.false_or Bool.and_true Bool.true_and Bool.and_false Bool.false_and String.reduceBEq String.reduceEq beq_self_eq_true ix_dq0 ix_dq1 ty_dq dep_dq noL_dq len_dq eq_dq oEq_dq oNe_dq Qe okDiv_lit okMul_litr okMul_litl okp9 p10 fdiv_pos fmod_pos Int.reduceEq Int.reduceNeg p10ne p10ne2 p10pos2 Int.reduceMul Int.reduceAdd Int.reduceSub Int.reduceDiv Int.reduceMod eqD Nat.reduceLT Nat.reducePow ne_eq not_true_eq_false not_false_eq_true".splitOn " ").map fun s=>⟨Lean.mkIdent s.toName⟩).toArray
 `(tactic| simp only[$[$ids:term],*])
theorem tU(t b:Int):dQ [.int t,.int b]=.ok (.v (.int (Int.gcd t b:Int))):=by
 unfold dQ;symm
 refine zGh (fun ρ=>∃(x y:Int)(r:Sl),ρ=[.val (.int x),.val (.int y),r]/\0<=x/\0<=y/\Int.gcd x y=Int.gcd t b) (fun ρ=>(slI 1 ρ).toNat)
  (fun r=>(r.bind (zMC (fR (aG 0)))).bind fin=.ok (.v (.int (Int.gcd t b:Int)))) ⟨_,_,_,rfl,by omega,by omega,by simp[Int.gcd]⟩ ?_
 rintro ρ ⟨x,y,r,rfl,hx,hy,hg⟩
 by_cases h:y=0
 ·subst h
  refine .inl ⟨rfl,?_⟩
  have e:x=(Int.gcd t b:Int):=by
   rw[Int.gcd_zero_right] at hg;omega
  rw[<-e];rfl
 ·refine .inr ⟨?_,[.val (.int y),.val (.int (x.fmod y)),.val (.int (x.fmod y))],?_,⟨y,x.fmod y,_,rfl,hy,?_,?_⟩,?_⟩
  ·symm
   rw[decide_eq_false h];rfl
  ·symm
   rw[oMod_i h];symm
  ·rw[zBD _ hy];exact QM _ h
  ·rw[zBD _ hy];exact(Fq.zFM hx (by omega)).trans hg
  ·have:=QN x (show 0<y by omega)
   rw[zBD _ hy];show(x % y).toNat<y.toNat
   omega
theorem zPC{t b:Int}(hb:b≠0):(dv t b).natAbs<=b.natAbs:=Nat.le_of_dvd (by omega) (Int.natAbs_dvd_natAbs.mpr (zFm t b))
theorem zCt{t b:Int}{n:Nat}(hb:b≠0)(hn:b.natAbs<2^n)(h:n<=8999):jH [.int t,.int b]=.ok (.v (dq (Rat.divInt t b))):=by
 have hd:mH (dv t b)=true:=uG (zQn hb) (Vq (zPC hb) hn) h;have e0:decide (b=0)=false:=decide_eq_false hb;unfold jH;symm;rw[e0];symm;rw[tU];symm;by_cases c:b<0
 ·have e:-(Int.gcd t b:Int)=dv t b:=by unfold dv;rw[if_pos c]
  rw[decide_eq_true c];symm;rw[e,oDiv_i hd];symm;rw[oDiv_i hd];symm;rw[yU hb,yT hb];rfl
 ·have e:(Int.gcd t b:Int)=dv t b:=by unfold dv;rw[if_neg c]
  rw[decide_eq_false c];symm;rw[e,oDiv_i hd];symm;rw[oDiv_i hd];symm;rw[yU hb,yT hb];rfl
theorem zRv(t:Int):jH [.int t,.int 0]=.err "NoFraction" := by
 unfold jH;symm
theorem zBP{p q:Rat}{m n:Nat}(hp:Sz m p)(hq:Sz n q)(h:m+n<=8999):mF [dq p,dq q]=.ok (.v (dq (p+q))):=by
 unfold mF;symm;rw[oMul_i (bQ hp.1 hq.d (by omega))];symm;rw[oMul_i (bQ hq.1 hp.d (by omega))];symm;rw[oMul_i (bQ hp.d hq.d (by omega))];symm;rw[zCt (Vi (eM p) (eM q)) (gF hp.d hq.d) h,zLH];symm
theorem eQ{p q:Rat}{m n:Nat}(hp:Sz m p)(hq:Sz n q)(h:m+n<=8999):cV [dq p,dq q]=.ok (.v (dq (p-q))):=by
 unfold cV;symm;rw[oMul_i (bQ hp.1 hq.d (by omega))];symm;rw[oMul_i (bQ hq.1 hp.d (by omega))];symm;rw[oMul_i (bQ hp.d hq.d (by omega))];symm;rw[zCt (Vi (eM p) (eM q)) (gF hp.d hq.d) h,zHN];symm
theorem nM{p q:Rat}{m n:Nat}(hp:Sz m p)(hq:Sz n q)(h:m+n<=8999):dN [dq p,dq q]=.ok (.v (dq (p*q))):=by
 unfold dN;symm;rw[oMul_i (bQ hp.1 hq.1 (by omega))];symm;rw[oMul_i (bQ hp.d hq.d (by omega))];symm;rw[zCt (Vi (eM p) (eM q)) (gF hp.d hq.d) h,zJD];symm
theorem zHo{p q:Rat}{m n:Nat}(hp:Sz m p)(hq:Sz n q)(h0:q≠0)(h:m+n<=8999):qP [dq p,dq q]=.ok (.v (dq (p / q))):=by
 unfold qP;symm;rw[oMul_i (bQ hp.1 hq.d (by omega))];symm;rw[oMul_i (bQ hp.d hq.1 (by omega))];symm;rw[zCt (Vi (eM p) (zHk.mpr h0)) (gF hp.d hq.1) h,zJB];symm
theorem jT{p q:Rat}{m n:Nat}(hp:Sz m p)(hq:Sz n q)(h:m+n<=99999):fJ [dq p,dq q]=.ok (.v (.bl (decide (p<q)))):=by
 unfold fJ;symm;rw[oMul_i (bQ hp.1 hq.d (by omega))];symm;rw[oMul_i (bQ hq.1 hp.d (by omega))];symm;simp only[lt_iff]
def mn(a b:Rat):Rat:=if a<b then a else b
def ps0(x:Rat):Rat:=if x<0 then 0 else x
def jL:List Int->Int->Rat->List Rat
 | [],_,_=>[]
 | c::r,a,q=>mn (ps0 (q-(a:Rat))) (c:Rat)::jL r (a+c) q
theorem zCr:∀(cs:List Int)(a:Int)(q:Rat),(jL cs a q).length=cs.length
 | [],_,_=>rfl
 | c::r,a,q=>by simp only[jL,Qn,zCr r]
theorem zMJ{q:Rat}{a c:Int}(h:0<=c):ps0 (q-(a:Rat))-mn (ps0 (q-(a:Rat))) (c:Rat)=ps0 (q-((a+c:Int):Rat)):=by
 have h':(0:Rat)<=(c:Rat):=by exact_mod_cast h
 rw[QU];unfold ps0 mn;grind
theorem cZ{n:Nat}{k:Int}(h:k.natAbs<2^n)(h0:0<n):Sz n (k:Rat):=by
 refine⟨h,?_⟩
 show 1<2^n
 exact Nat.one_lt_two_pow (by omega)
theorem zQP{n:Nat}{q:Rat}(h:Sz n q)(h0:0<n):Sz n (ps0 q):=by
 unfold ps0;split
 ·exact cZ (k:=0) (Nat.two_pow_pos n) h0
 ·exact h
theorem zNy{n:Nat}{p q:Rat}(h:Sz n p)(h':Sz n q):Sz n (mn p q):=by
 unfold mn;split
 ·exact h
 ·exact h'
theorem bU(k:Int):bL [.int k]=.ok (.v (dq (k:Rat))):=by
 unfold bL;symm;rw[zQc]
theorem zEU{p q:Rat}{m n:Nat}(hp:Sz m p)(hq:Sz n q)(h:m+n<=99999):lP [dq p,dq q]=.ok (.v (dq (mn p q))):=by
 unfold lP;symm;rw[jT hp hq h];symm;unfold mn;by_cases c:p<q
 ·rw[decide_eq_true c,if_pos c]
  symm
 ·rw[decide_eq_false c,if_neg c]
  symm
structure Cl (cs:List Int):Prop where
 nn:∀ c∈cs,0<=c
 up:∀ c∈cs,c<10^30
 lo:1<=cs.length
 hi:cs.length<=12
theorem zLY:∀ {cs:List Int},(∀ c∈cs,0<=c)->(∀ c∈cs,c<10^30)->0<=cs.sum/\cs.sum<=cs.length*10^30
 | [],_,_=>by decide
 | c::r,h,h'=>by
  have ih:=zLY (fun x hx=>h x (Qc _ hx)) fun x hx=>h' x (Qc _ hx)
  have a:=h c Qb;have b:=h' c Qb;rw[QF,Qn];refine⟨by omega,?_⟩
  have:((r.length+1:Nat):Int)*10^30=(r.length:Int)*10^30+10^30:=by rw[V8,V9];rfl
  omega
theorem Cl.sum{cs:List Int}(h:Cl cs):0<=cs.sum/\cs.sum<2^104:=by
 have a:=zLY h.nn h.up;have b:=h.hi;refine⟨a.1,?_⟩
 omega
structure Haul (m:Nat) (q:Rat) (W:Int):Prop where
 nn:0<=q
 up:q<=(W:Rat)
 sz:Sz m q
theorem zFL{d:D}{q:Rat}{m:Nat}(hm:m<=3000)(hq:Sz m q):∀(cs:List Int)(a:Int)(acc:List D)(s t:Sl),(∀ c∈cs,0<=c)->(∀ c∈cs,c<10^30)->0<=a->a+cs.length*10^30<2^110->acc.length+cs.length<=100->
  ∃ l' s' t',fS (gName 4) pT (cs.map D.int) [.val d,.val (dq q),.val (dq (ps0 (q-(a:Rat)))),.own acc,s,t]=.ok (.nx [.val d,.val (dq q),l',.own (acc++(jL cs a q).map dq),s',t'])
 | [],a,acc,s,t,_,_,_,_,_=>⟨.val (dq (ps0 (q-(a:Rat)))),s,t,by rw[Vp,fS];simp[jL]⟩
 | c::r,a,acc,s,t,h1,h2,h3,h4,h5=>by
  have c0:=h1 c Qb;have c1:=h2 c Qb;rw[Qn] at h4 h5;have e4:((r.length+1:Nat):Int)*10^30=(r.length:Int)*10^30+10^30:=by rw[V8,V9];rfl
  have r0:0<=(r.length:Int)*10^30:=X6 (by omega) (by decide)
  have zl:Sz (m+111) (ps0 (q-(a:Rat))):=zQP (hq.sub (cZ (n:=110) (by omega) (by decide))) (by omega)
  have zc:Sz (m+111) (c:Rat):=Sz.mono (m:=110) (cZ (by omega) (by decide)) (by omega)
  obtain⟨l',s',t',e⟩:=zFL hm hq r (a+c) (acc++[dq (mn (ps0 (q-(a:Rat))) (c:Rat))]) (.val (.int c)) (.val (dq (mn (ps0 (q-(a:Rat))) (c:Rat)))) (fun x hx=>h1 x (Qc _ hx)) (fun x hx=>h2 x (Qc _ hx)) (by omega) (by omega) (by rw[Qm,XD];omega)
  refine⟨l',s',t',?_⟩
  rw[Qs,eS (ρ1:=[.val d,.val (dq q),.val (dq (ps0 (q-(a:Rat)))),.own acc,.val (.int c),t]) rfl,e]
  ·rw[jL,Qs,QY];rfl
  ·symm
   rw[bU];symm;rw[zEU zl zc (by omega)];symm;rw[if_pos (by omega)];symm;rw[eQ zl (zNy zl zc) (by omega)];symm;rw[zMJ c0]
theorem zEk{d:D}{cs:List Int}{q:Rat}(hd:d=.lst (cs.map D.int)∨d=.tup (cs.map D.int)){m:Nat}(hm:m<=3000)(hc:Cl cs)(hq:Sz m q)(h0:0<=q):gM [d,dq q]=.ok (.f ((jL cs 0 q).map dq)):=by
 have sq:zMw d=.ok (cs.map D.int):=by rcases hd with rfl | rfl<;>rfl
 have:=hc.hi
 obtain⟨l',s',t',e⟩:=zFL (d:=d) hm hq cs 0 [] .un .un hc.nn hc.up (by decide) (by omega) (by rw[Xf];omega)
 have z:ps0 (q-((0:Int):Rat))=q:=by
  unfold ps0;rw[show((0:Int):Rat)=0 from rfl];grind
 rw[z] at e;unfold gM;symm;rw[sq];symm;rw[e];rfl
def zAT(cs:List Int)(q:Rat):List Rat:=cs.map fun c=>Rat.divInt (c*q.num) (max 1 cs.sum*q.den)
theorem zJU{q:Rat}{c W:Int}(h:0<W):q / (W:Rat)*(c:Rat)=Rat.divInt (c*q.num) (W*q.den):=by
 have hW:(W:Rat)≠0:=by
  intro z;have:W=0:=by exact_mod_cast z
  omega
 rw[<-zJB q (W:Rat)];show Rat.divInt (q.num*((1:Nat):Int)) (q.den*W)*(c:Rat)=_
 rw[show((1:Nat):Int)=1 from rfl,QW,<-Vb (c:Rat),XL];show Rat.divInt (q.num*c) (q.den*W*((1:Nat):Int))=_
 rw[show((1:Nat):Int)=1 from rfl,QW,X7 q.num,X7 (q.den:Int)]
theorem rE:∀ {cs:List Int},(∀ c∈cs,0<=c)->cs.sum=0->∀ c∈cs,c=0
 | [],_,_,c,h=>by cases h
 | d::r,h,e,c,hc=>by
  rw[QF] at e;have h0:=h d Qb
  have hr:0<=r.sum:=by
   have:∀ l:List Int,(∀ c∈l,0<=c)->0<=l.sum:=by
    intro l
    induction l with
    | nil=>intro _;decide
    | cons a l ih=>intro hl;rw[QF];have:=hl a Qb;have:=ih fun x hx=>hl x (Qc _ hx);omega
   exact this r fun x hx=>h x (Qc _ hx)
  rcases Qd.mp hc with rfl | hc
  ·omega
  ·exact rE (fun x hx=>h x (Qc _ hx)) (by omega) c hc
theorem zBS{d:D}{cs:List Int}{q:Rat}(hd:d=.lst (cs.map D.int)∨d=.tup (cs.map D.int)){m:Nat}(hm:m<=3000)(hc:Cl cs)(hq:Sz m q):fK [d,dq q]=.ok (.f ((zAT cs q).map dq)):=by
 have sm:=hc.sum;have hi:=hc.hi;have sq:zMw d=.ok (cs.map D.int):=by rcases hd with rfl | rfl<;>rfl
 have su:zCE [d]=.ok (.int cs.sum):=by rcases hd with rfl | rfl;exact bSum_l;exact bSum_t
 have ln:kU [d]=.ok (.int cs.length):=by rcases hd with rfl | rfl<;>(symm)
 unfold fK;symm;rw[su];symm;by_cases c0:cs.sum=0
 ·rw[decide_eq_true c0]
  symm;rw[ln];symm;rw[zEV (by omega)];symm
  have e:(zAT cs q).map dq=List.replicate cs.length (dq 0):=by
   unfold zAT;rw[Qv,<-List.map_const'];refine Q6 fun c h=>?_
   have c0:=rE hc.nn c0 c h;subst c0;show dq (Rat.divInt (0*q.num) _)=dq 0
   rw[Int.zero_mul,XS]
  rw[e]
 ·rw[decide_eq_false c0]
  symm;have W0:0<cs.sum:=by omega
  have zW:Sz 110 (cs.sum:Rat):=cZ (by omega) (by decide)
  have nW:(cs.sum:Rat)≠0:=by
   intro z;have:cs.sum=0:=by exact_mod_cast z
   omega
  rw[bU];symm;rw[zHo hq zW nW (by omega)];symm;rw[sq];symm
  rw[fA (u:=D.int) (g:=fun c=>dq (Rat.divInt (c*q.num) (max 1 cs.sum*q.den))) (by omega) (fun c h=>by
   have c0:=hc.nn c h;have c1:=hc.up c h;symm;rw[bU];symm;rw[nM (hq.div zW nW) (cZ (n:=110) (k:=c) (by omega) (by decide)) (by omega)];symm
   rw[zJU W0,Int.max_eq_right (by omega)])]
  symm;unfold zAT;rw[Qv];rfl
def iY(f:Nat->Rat)(l:List Nat):Rat:=(l.map f).sum
theorem bG(f:Nat->Rat)(i:Nat)(l:List Nat):iY f (i::l)=f i+iY f l:=by unfold iY;rw[Qs,QF]
theorem iV(f:Nat->Rat):iY f []=0:=rfl
theorem sG{f g:Nat->Rat}:∀ {l:List Nat},(∀ i∈l,f i<=g i)->iY f l<=iY g l
 | [],_=>Qh
 | i::l,h=>by
  rw[bG,bG];have a:=h i Qb;have b:=sG fun j hj=>h j (Qc _ hj)
  grind
theorem sQ{f g:Nat->Rat}:∀ {l:List Nat},(∀ i∈l,f i<=g i)->iY f l=iY g l->∀ i∈l,f i=g i
 | [],_,_,i,hi=>by cases hi
 | j::l,h,e,i,hi=>by
  rw[bG,bG] at e;have a:=h j Qb;have hb:∀ i∈l,f i<=g i:=fun k hk=>h k (Qc _ hk)
  have b:=sG hb;rcases Qd.mp hi with rfl | hi
  ·grind
  ·exact sQ hb (by grind) i hi
theorem vZ{f:Nat->Rat}{l m:List Nat}(h:l.Perm m):iY f l=iY f m:=by
 induction h with
 | nil=>rfl
 | cons x _ ih=>rw[bG,bG,ih]
 | swap x y l=>rw[bG,bG,bG,bG];grind
 | trans _ _ h1 h2=>rw[h1,h2]
theorem dX{w:Nat->Rat}{t:Rat}:∀ {l:List Nat},iY (fun i=>w i*t) l=t*iY w l
 | []=>by rw[iV,iV];grind
 | i::l=>by rw[bG,bG,dX];grind
theorem eN{f g:Nat->Rat}{l:List Nat}(h:∀ i∈l,f i=g i):iY f l=iY g l:=by unfold iY;rw[Q6 h]
theorem zKI{w:Nat->Rat}:∀ {l:List Nat},(∀ i∈l,0<w i)->0<=iY w l
 | [],_=>Qh
 | i::l,h=>by
  rw[bG];have a:=h i Qb;have b:=zKI fun j hj=>h j (Qc _ hj)
  grind
def dY(c w:Nat->Rat)(t:Rat)(i:Nat):Rat:=mn (w i*t) (c i)
theorem zRE{a b c d:Rat}(h:a<=c)(h':b<=d):mn a b<=mn c d:=by unfold mn;grind
theorem nH{c w:Nat->Rat}{t u:Rat}{i:Nat}(hw:0<w i)(h:t<=u):dY c w t i<=dY c w u i:=
 zRE (Vs h (Qf hw)) Qh
theorem zBg{c w:Nat->Rat}{t u:Rat}{l:List Nat}(hw:∀ i∈l,0<w i)(h:iY (dY c w t) l=iY (dY c w u) l):∀ i∈l,dY c w t i=dY c w u i:=by
 rcases Vm (a:=t) (b:=u) with g | g
 ·exact sQ (fun i hi=>nH (hw i hi) g) h
 ·exact fun i hi=>(sQ (fun i hi=>nH (hw i hi) g) h.symm i hi).symm
theorem zIy{L W w c:Rat}(hW:0<W)(h:L*w / W<c):mn (L*w / W) c=mn (w*(L / W)) c/\mn (w*(L / W)) c=w*(L / W):=by
 have e:L*w / W=w*(L / W):=by grind
 rw[e] at h ⊢
 exact⟨rfl,if_pos h⟩
theorem zHp{r W w c:Rat}(hW:W≠0)(h:w*r<=c):mn (r*W*w / W) c=w*r:=by
 have e:r*W*w / W=w*r:=by grind
 rw[e];unfold mn;grind
theorem zHx{ci wi cj wj r:Rat}(h1:0<wi)(h2:0<wj)(h:ci*wj<=cj*wi)(hr:wi*r<=ci):wj*r<=cj:=by
 have a:wi*r*wj<=ci*wj:=Q3 hr (Qf h2)
 have b:wj*r*wi<=cj*wi:=by
  have:wj*r*wi=wi*r*wj:=by grind
  rw[this];exact QB a h
 exact VR b h1
theorem zGo{L W w c b:Rat}(hw:0<w)(h:¬ L*w / W<c)(hW:0<W)(hb:b*W<=L):∃ b',b<=b'/\c<=w*b'/\b' * (W-w)<=L-c:=by
 have h1:c*W<=L*w:=by
  have h':=Q7.mp h;have:=Q3 h' (Qf hW)
  rwa [Q8 (by grind)] at this
 have e1:w*(c / w)=c:=by grind
 have e2:c / w*(W-w)=c*W / w-c:=by grind
 have e3:c*W / w<=L:=by
  have a:c*W / w*w<=L*w:=by rw[Q8 (by grind)];exact h1
  exact VR a hw
 rcases Vm (a:=b) (b:=c / w) with g | g
 ·exact⟨c / w,g,by rw[e1];exact Qh,by rw[e2];grind⟩
 ·refine⟨b,Qh,?_,?_⟩
  ·have:=Vs g (Qf hw)
   rwa [e1] at this
  ·have:=Vs g (Qf hw)
   rw[e1] at this;grind
structure Wt (ws cs:List Int):Prop where
 len:ws.length=cs.length
 lo:∀ w∈ws,1<=w
 up:∀ w∈ws,w<=10^6
def cR(cs:List Int)(i:Nat):Rat:=((cs.getD i 0:Int):Rat)
def qN:List (Nat×Rat)->List D->List D
 | [],am=>am
 | p::r,am=>qN r (am.set p.1 (dq p.2))
def wS(ws:List Int)(π:List Nat):Int:=(π.map fun i=>ws.getD i 0).sum
theorem nK(ws:List Int)(i:Nat)(π:List Nat):wS ws (i::π)=ws.getD i 0+wS ws π:=by unfold wS;rw[Qs,QF]
theorem bP{l:List Int}{i:Nat}(h:i<l.length):l[i]?=some (l.getD i 0):=by rw[Qx,Ql h];rfl
theorem zPa{l:List Int}{i:Nat}(h:i<l.length):oIx (.lst (l.map D.int)) (.int (i:Int))=.ok (.int (l.getD i 0)):=mY (Vg i) (show l[((i:Nat):Int).toNat]?=some (l.getD i 0) from bP h)
theorem zRu{i:Nat}{k e:Ev}{ρ:Rho}{ds:List D}{d:D}{j:Nat}(h1:e ρ=.ok d)(h2:ρ[i]?=some (.own ds))(h3:k ρ=.ok (.int (j:Int)))(h4:j<ds.length):zRg i k e ρ=.ok (.nx (ρ.set i (.own (ds.set j d)))):=by
 unfold zRg;rw[h1];show(match ρ[i]? with | some (.own ds)=>_ | _=>_)=_
 rw[h2];show(k ρ).bind _=_
 rw[h3];exact if_pos ⟨Vg j,by omega⟩
theorem zPw{ds:List D}{d:D}{i:Nat}(h:i<ds.length):oIx (.lst (ds.set i d)) (.int (i:Int))=.ok d:=by
 have e:=mY (f:=id) (l:=ds.set i d) (i:=(i:Int)) (a:=d) (Vg i) (show(ds.set i d)[i]?=some d from QJ h)
 rwa [List.map_id] at e
theorem Wt.at{ws cs:List Int}(h:Wt ws cs){i:Nat}(hi:i<cs.length):1<=ws.getD i 0/\ws.getD i 0<=10^6:=by
 have:=bP (l:=ws) (i:=i) (by rw[h.len];exact hi)
 exact⟨h.lo _ (Qi this),h.up _ (Qi this)⟩
theorem Wt.sum{ws cs:List Int}(h:Wt ws cs):∀ {π:List Nat},(∀ i∈π,i<cs.length)->(π.length:Int)<=wS ws π/\wS ws π<=π.length*10^6
 | [],_=>⟨V7 _,V7 _⟩
 | i::π,hi=>by
  have a:=h.at (hi i Qb);have b:=h.sum fun j hj=>hi j (Qc _ hj)
  rw[nK,Qn];omega
def Sq(d:D)(l:List Int):Prop:=d=.lst (l.map D.int)∨d=.tup (l.map D.int)
theorem Sq.ix{d:D}{l:List Int}(h:Sq d l){i:Nat}(hi:i<l.length):oIx d (.int (i:Int))=.ok (.int (l.getD i 0)):=by
 rcases h with rfl | rfl
 ·exact mY (Vg i) (bP hi)
 ·exact eK (Vg i) (bP hi)
theorem Sq.sum{d:D}{l:List Int}(h:Sq d l):zCE [d]=.ok (.int l.sum):=by
 rcases h with rfl | rfl
 ·exact bSum_l
 ·exact bSum_t
theorem Sq.len{d:D}{l:List Int}(h:Sq d l):kU [d]=.ok (.int l.length):=by
 rcases h with rfl | rfl
 ·rw[bLen_l,Qe]
 ·rw[bLen_t,Qe]
theorem Sq.seq{d:D}{l:List Int}(h:Sq d l):zMw d=.ok (l.map D.int):=by
 rcases h with rfl | rfl<;>rfl
theorem Sq.seqo{d:D}{l:List Int}(h:Sq d l):zKg d=some (l.map D.int):=by
 rcases h with rfl | rfl<;>rfl
theorem zIf{ws cs:List Int}{wd cd:D}(sw:Sq wd ws)(sc:Sq cd cs){qv s7:Sl}{L:Rat}{W:Int}{i:Nat}{am:List D}(hW:Wt ws cs)(hc:∀ c∈cs,0<=c/\c<10^30){m:Nat}(hm:m<=3000)(hL:Sz (m+250) L)(W0:0<W)(W1:W<=12*10^6)(hi:i<cs.length)(ha:am.length=cs.length){a:Rat}(ea:mn (L*cR ws i / (W:Rat)) (cR cs i)=a):
  bY [.val wd,.val cd,qv,.val (dq L),.val (.int W),.own am,.val (.int (i:Nat)),s7]=
   .ok (.nx [.val wd,.val cd,qv,.val (dq (L-a)),.val (.int (W-ws.getD i 0)),.own (am.set i (dq a)),.val (.int (i:Nat)),.val (dq (L*cR ws i / (W:Rat)))]):=by
 have hiw:i<ws.length:=by rw[hW.len];exact hi
 obtain⟨w1,w2⟩:=hW.at hi;obtain⟨c1,c2⟩:=hc _ (Qi (bP hi));have zW:Sz 24 (W:Rat):=cZ (by omega) (by decide)
 have zw:Sz 20 (cR ws i):=cZ (by omega) (by decide)
 have zc:Sz (m+294) (cR cs i):=Sz.mono (m:=100) (cZ (by omega) (by decide)) (by omega)
 have nW:(W:Rat)≠0:=by
  intro z;have:W=0:=by exact_mod_cast z
  omega
 have fw:bL [.int (ws.getD i 0)]=.ok (.v (dq (cR ws i))):=bU _;have fc:bL [.int (cs.getD i 0)]=.ok (.v (dq (cR cs i))):=bU _;have zx:Sz (m+294) (L*cR ws i / (W:Rat)):=((hL.mul zw).div zW nW).mono (by omega)
 symm;rw[sw.ix hiw];symm;rw[fw];symm;rw[nM hL zw (by omega)];symm;rw[bU];symm;rw[zHo (hL.mul zw) zW nW (by omega)];symm
 rw[zRu (j:=i) (d:=dq a) (ds:=am) (by
  symm;rw[sc.ix hi];symm;rw[fc];symm;rw[zEU zx zc (by omega),ea]
  symm) rfl rfl (by omega)]
 symm;rw[zPw (by omega)];symm;rw[eQ hL (ea ▸ zNy zx zc) (by omega)];symm;rw[sw.ix hiw];symm
theorem mZ(ws:List Int):∀ π:List Nat,iY (cR ws) π=(wS ws π:Rat)
 | []=>rfl
 | i::π=>by rw[bG,mZ ws π,nK,QU];rfl
theorem zCh{ws cs:List Int}{wd cd:D}(sw:Sq wd ws)(sc:Sq cd cs){qv:Sl}{r:Rat}{m:Nat}(hm:m<=3000)(hW:Wt ws cs)(hc:∀ c∈cs,0<=c/\c<10^30)(hr:Sz (m+150) r):∀(π:List Nat)(am:List D)(s6 s7:Sl),(∀ i∈π,i<cs.length)->(∀ i∈π,cR ws i*r<=cR cs i)->π.length<=12->am.length=cs.length->
  ∃ l' W' s' t',fS (gName 6) bY (kO π) [.val wd,.val cd,qv,.val (dq (r*(wS ws π:Rat))),.val (.int (wS ws π)),.own am,s6,s7]=
   .ok (.nx [.val wd,.val cd,qv,l',W',.own (qN (π.map fun i=>(i,cR ws i*r)) am),s',t'])
 | [],am,s6,s7,_,_,_,_=>⟨_,_,_,_,rfl⟩
 | i::π,am,s6,s7,h1,h2,h4,h5=>by
  have hi:=h1 i Qb;obtain⟨W1,W2⟩:=hW.sum h1;rw[Qn] at h4 W1 W2;have zW:Sz 24 (wS ws (i::π):Rat):=cZ (by omega) (by decide)
  have nW:(wS ws (i::π):Rat)≠0:=by
   intro z;have:wS ws (i::π)=0:=by exact_mod_cast z
   omega
  have e1:wS ws (i::π)-ws.getD i 0=wS ws π:=by rw[nK];omega
  have e2:r*(wS ws (i::π):Rat)-cR ws i*r=r*(wS ws π:Rat):=by
   rw[nK,QU];show r*(cR ws i+(wS ws π:Rat))-cR ws i*r=_
   grind
  have tn:=zIf sw sc (qv:=qv) (s7:=s7) (W:=wS ws (i::π)) (am:=am) hW hc hm ((hr.mul zW).mono (by omega)) (by omega) (by omega) hi h5 (zHp nW (h2 i Qb))
  rw[e1,e2] at tn;obtain⟨l',W',s',t',e⟩:=zCh sw sc hm hW hc hr π (am.set i (dq (cR ws i*r))) _ _ (fun j hj=>h1 j (Qc _ hj)) (fun j hj=>h2 j (Qc _ hj)) (by omega) (by rw[QE];exact h5)
  refine⟨l',W',s',t',?_⟩
  show fS _ _ (.int (i:Nat)::kO π) _=_
  rw[eS rfl tn,e];rfl
theorem zCw{ws cs:List Int}{wd cd:D}(sw:Sq wd ws)(sc:Sq cd cs){qv:Sl}{q:Rat}{m:Nat}(hm:m<=3000)(hW:Wt ws cs)(hc:∀ c∈cs,0<=c/\c<10^30)(hq:Sz m q):∀(π:List Nat)(k:Int)(b:Rat)(am:List D)(s6 s7:Sl),(∀ i∈π,i<cs.length)->π.Pairwise (fun i j=>cR cs i*cR ws j<=cR cs j*cR ws i)->π.length<=12->am.length=cs.length->
  0<=k->k+π.length*10^30<2^110->0<=q-(k:Rat)->q-(k:Rat)<=iY (cR cs) π->b*(wS ws π:Rat)<=q-(k:Rat)->
  ∃ t,b<=t/\iY (dY (cR cs) (cR ws) t) π=q-(k:Rat)/\(∀ i∈π,Sz (m+155) (dY (cR cs) (cR ws) t i))/\∃ l' W' s' t',fS (gName 6) bY (kO π) [.val wd,.val cd,qv,.val (dq (q-(k:Rat))),.val (.int (wS ws π)),.own am,s6,s7]=
   .ok (.nx [.val wd,.val cd,qv,l',W',.own (qN (π.map fun i=>(i,dY (cR cs) (cR ws) t i)) am),s',t'])
 | [],k,b,am,s6,s7,_,_,_,_,_,_,h6,h7,_=>⟨b,Qh,by rw[iV] at h7 ⊢;grind,fun i h=>by(cases h),_,_,_,_,rfl⟩
 | i::π,k,b,am,s6,s7,h1,h2,h3,h4,h5,h5',h6,h7,h8=>by
  have hi:=h1 i Qb;have h1':∀ j∈π,j<cs.length:=fun j hj=>h1 j (Qc _ hj)
  obtain⟨W1,W2⟩:=hW.sum h1;obtain⟨V1,V2⟩:=hW.sum h1';obtain⟨w1,w2⟩:=hW.at hi;obtain⟨c1,c2⟩:=hc _ (Qi (bP hi));obtain⟨p1,p2⟩:=Qq.mp h2;rw[Qn] at h3 h5' W1 W2;have ek:((π.length+1:Nat):Int)*10^30=(π.length:Int)*10^30+10^30:=by rw[V8,V9];rfl
  have k0:0<=(π.length:Int)*10^30:=X6 (by omega) (by decide)
  have zW:Sz 24 (wS ws (i::π):Rat):=cZ (by omega) (by decide)
  have zk:Sz 110 (k:Rat):=cZ (by omega) (by decide)
  have zL:Sz (m+111) (q-(k:Rat)):=(hq.sub zk).mono (by omega)
  have pW:(0:Rat)<(wS ws (i::π):Rat):=by exact_mod_cast (show 0<wS ws (i::π) by omega)
  have nW:(wS ws (i::π):Rat)≠0:=fun z=>by rw[z] at pW;exact absurd pW (by decide)
  have pw:∀ j,j<cs.length->0<cR ws j:=fun j hj=>by
   have:=(hW.at hj).1
   unfold cR;exact_mod_cast (show 0<ws.getD j 0 by omega)
  have e1:wS ws (i::π)-ws.getD i 0=wS ws π:=by rw[nK];omega
  have eW:(wS ws (i::π):Rat)=cR ws i+(wS ws π:Rat):=by rw[nK,QU];rfl
  have pV:(0:Rat)<=(wS ws π:Rat):=by exact_mod_cast (show 0<=wS ws π by omega)
  generalize hL:q-(k:Rat)=L at h6 h7 h8 zL ⊢
  have loop1:∀ {a:Rat} {l' W' s' t':Sl} {am':List D},mn (L*cR ws i / (wS ws (i::π):Rat)) (cR cs i)=a->fS (gName 6) bY (kO π) [.val wd,.val cd,qv,.val (dq (L-a)),.val (.int (wS ws π)),.own (am.set i (dq a)),.val (.int (i:Nat)),.val (dq (L*cR ws i / (wS ws (i::π):Rat)))]=.ok (.nx [.val wd,.val cd,qv,l',W',.own am',s',t'])->
    fS (gName 6) bY (kO (i::π)) [.val wd,.val cd,qv,.val (dq L),.val (.int (wS ws (i::π))),.own am,s6,s7]=.ok (.nx [.val wd,.val cd,qv,l',W',.own am',s',t']):=fun {a l' W' s' t' am'} ea e=>by
   have tn:=zIf sw sc (qv:=qv) (s7:=s7) (W:=wS ws (i::π)) (am:=am) hW hc hm (zL.mono (by omega)) (by omega) (by omega) hi h4 ea
   rw[e1] at tn;show fS _ _ (.int (i:Nat)::kO π) _=_
   rw[eS rfl tn];exact e
  by_cases hx:L*cR ws i / (wS ws (i::π):Rat)<cR cs i
  ·obtain⟨x1,x2⟩:=zIy pW hx
   generalize hr:L / (wS ws (i::π):Rat)=r at x1 x2;have zr:Sz (m+135) r:=hr ▸ (zL.div zW nW).mono (by omega)
   have eL:L=r*(wS ws (i::π):Rat):=by rw[<-hr,Q8 nW]
   have wr:cR ws i*r<=cR cs i:=by
    have e:L*cR ws i / (wS ws (i::π):Rat)=cR ws i*r:=by rw[<-hr];grind
    rw[e] at hx;exact Qf hx
   have later:∀ j∈π,cR ws j*r<=cR cs j:=fun j hj=>zHx (pw i hi) (pw j (h1' j hj)) (p1 j hj) wr
   have gj:∀ j∈i::π,dY (cR cs) (cR ws) r j=cR ws j*r:=fun j hj=>by
    have:cR ws j*r<=cR cs j:=by
     rcases Qd.mp hj with rfl | hj
     ·exact wr
     ·exact later j hj
    unfold dY mn;grind
   have e2:L-cR ws i*r=r*(wS ws π:Rat):=by rw[eL,eW];grind
   obtain⟨l',W',s',t',e⟩:=zCh sw sc (qv:=qv) hm hW hc (zr.mono (by omega)) π (am.set i (dq (cR ws i*r))) (.val (.int (i:Nat))) (.val (dq (L*cR ws i / (wS ws (i::π):Rat)))) h1' later (by omega) (by rw[QE];exact h4)
   refine⟨r,VR (by rw[<-eL];exact h8) pW,?_,fun j hj=>?_,l',W',s',t',loop1 (a:=cR ws i*r) (x1.trans x2) ?_⟩
   ·rw[eN gj,dX,mZ,<-eL]
   ·rw[gj j hj]
    have v:=hW.at (h1 j hj);exact(Sz.mul (m:=20) (n:=m+135) (cZ (by omega) (by decide)) zr).mono (by omega)
   ·rw[e2,e,Qs,qN,gj i Qb]
    rw[Q6 (g:=fun j=>(j,dY (cR cs) (cR ws) r j)) fun j hj=>by rw[gj j (Qc _ hj)]]
  ·have ea:mn (L*cR ws i / (wS ws (i::π):Rat)) (cR cs i)=cR cs i:=if_neg hx
   obtain⟨b',g1,g2,g3⟩:=zGo (pw i hi) hx pW h8;have ek2:q-((k+cs.getD i 0:Int):Rat)=L-cR cs i:=by rw[QU,<-hL];show q-((k:Rat)+cR cs i)=_;grind
   have c0:0<=cR cs i:=by unfold cR;exact_mod_cast c1
   have cL:cR cs i<=L:=by
    have y:=Q3 (Q7.mp hx) (Qf pW);rw[Q8 nW] at y;have y2:L*cR ws i<=L*(wS ws (i::π):Rat):=Vs (by rw[eW];grind) h6
    exact VR (QB y y2) pW
   rw[bG] at h7
   have g3':b' * (wS ws π:Rat)<=L-cR cs i:=by
    rw[eW] at g3;have:cR ws i+(wS ws π:Rat)-cR ws i=(wS ws π:Rat):=by grind
    rw[this] at g3;exact g3
   obtain⟨t,t1,t2,tz,l',W',s',t',e⟩:=zCw sw sc (qv:=qv) hm hW hc hq π (k+cs.getD i 0) b' (am.set i (dq (cR cs i))) (.val (.int (i:Nat))) (.val (dq (L*cR ws i / (wS ws (i::π):Rat)))) h1' p2 (by omega) (by rw[QE];exact h4) (by omega) (by omega) (by rw[ek2];grind) (by rw[ek2];grind) (by rw[ek2];exact g3')
   have gi:dY (cR cs) (cR ws) t i=cR cs i:=by
    have:=Vs t1 (Qf (pw i hi))
    unfold dY mn;grind
   rw[ek2] at e t2;refine⟨t,QB g1 t1,?_,fun j hj=>?_,l',W',s',t',loop1 ea ?_⟩
   ·rw[bG,gi,t2];grind
   ·rcases Qd.mp hj with rfl | hj
    ·rw[gi];exact Sz.mono (m:=100) (cZ (by omega) (by decide)) (by omega)
    ·exact tz j hj
   ·rw[e,Qs,qN,gi]
theorem zE{g:Nat->Rat}:∀(π:List Nat)(am:List D)(j:Nat),(qN (π.map fun i=>(i,g i)) am)[j]?=if j∈π then (if j<am.length then some (dq (g j)) else none) else am[j]?
 | [],am,j=>by simp[qN]
 | i::π,am,j=>by
  rw[Qs,qN,zE π,QE];by_cases h1:j∈π
  ·rw[if_pos h1,if_pos (Qc _ h1)]
  ·rw[if_neg h1]
   by_cases h2:j=i
   ·subst h2
    rw[if_pos Qb];by_cases h3:j<am.length
    ·rw[if_pos h3];exact QJ h3
    ·rw[if_neg h3,QA (by rw[QE];omega)]
   ·rw[if_neg (by simp[h1,h2]),QG (fun z=>h2 z.symm)]
theorem zGX{g:Nat->Rat}{π:List Nat}{n:Nat}(h:π.Perm (List.range n)):qN (π.map fun i=>(i,g i)) (List.replicate n (dq 0))=((List.range n).map g).map dq:=by
 refine V5 fun j=>?_
 rw[zE,Qr,Qr,VI];by_cases hj:j<n
 ·rw[if_pos (h.mem_iff.mpr (Qj.mpr hj)),if_pos hj,Vd hj];rfl
 ·rw[if_neg (fun z=>hj (Qj.mp (h.mem_iff.mp z))),QA (by rw[VI];omega),QA (by rw[Qy];omega)];rfl
theorem zEq(kz:List Int):∃ π,hZ kz π:=by
 refine⟨(List.range kz.length).mergeSort (fun i j=>decide (kz.getD i 0<=kz.getD j 0)),Yz _ _,?_⟩
 have:=YA (le:=fun i j=>decide (kz.getD i 0<=kz.getD j 0)) (fun a b c h1 h2=>by simp only[decide_eq_true_eq] at *;omega) (fun a b=>by simp only[VM,decide_eq_true_eq];omega) (List.range kz.length)
 exact this.imp fun h=>of_decide_eq_true h
theorem zHZ{fs:Fv}{kf:List D->Res (List Int)}{g:Gv}{b r:Sv}{ρ:Rho}{kz:List Int}{x:Res Fl}(h1:(fs ρ).bind kf=.ok kz)(h:∀ π,hZ kz π->aX (fun ρ=>fS g b (kO π) ρ) r ρ=x):zIE fs kf g b r ρ=x:=by
 obtain⟨π,hπ⟩:=zEq kz;unfold zIE;rw[h1];exact zGP hπ h
def uC:List Rat->Int
 | []=>1
 | x::r=>x.den*uC r
def zKj(B:Int)(x:Rat):Int:=x.num*B.fdiv x.den
theorem zFF:∀ {l:List Rat} {x:Rat},x∈l->(x.den:Int) ∣ uC l
 | y::r,x,h=>by
  rcases Qd.mp h with rfl | h
  ·exact⟨uC r,rfl⟩
  ·exact Int.dvd_trans (zFF h) ⟨y.den,X7 _ _⟩
theorem zBA:∀ l:List Rat,0<uC l
 | []=>by decide
 | x::r=>Xs (gE x) (zBA r)
theorem zMl{l:List Rat}{x:Rat}(h:x∈l):((zKj (uC l) x:Int):Rat)=x*(uC l:Rat):=by
 obtain⟨k,hk⟩:=zFF h;have d0:=gE x;unfold zKj;rw[fdiv_pos _ d0,hk,Int.mul_ediv_cancel_left _ (by omega),QO,QO]
 have e:x*((x.den:Int):Rat)=(x.num:Rat):=by
  have h1:=Vb x;rw[VC] at h1
  have h2:((x.den:Int):Rat)≠0:=fun z=>by
   have:(x.den:Int)=0:=by exact_mod_cast z
   omega
  rw[<-Q8 (a:=(x.num:Rat)) h2,h1]
 rw[<-e];grind
theorem zCs{a:Sl}:∀(l:List Rat)(B:Int)(s:Sl)(m:Nat),(∀ x∈l,(x.den:Int)<=10^6)->B.natAbs<2^m->m+20*l.length<=1000->
  ∃ s',fS (gName 2) yV (l.map dq) [a,.val (.int B),s]=.ok (.nx [a,.val (.int (B*uC l)),s'])/\(B*uC l).natAbs<2^(m+20*l.length)
 | [],B,s,m,_,h2,_=>⟨s,by rw[Vp,fS,uC,QW],by rw[uC,QW];exact h2⟩
 | x::r,B,s,m,h1,h2,h3=>by
  have d1:=h1 x Qb;have d0:=gE x;rw[Qn] at h3;have hx:((x.den:Int)).natAbs<2^20:=by omega
  obtain⟨s',e,hb⟩:=zCs r (B*x.den) (.val (dq x)) (m+20) (fun y hy=>h1 y (Qc _ hy)) (gF h2 hx) (by omega)
  have ed:B*uC (x::r)=B*x.den*uC r:=by rw[uC,X8]
  refine⟨s',?_,by rw[ed,Qn,show m+20*(r.length+1)=m+20+20*r.length by omega];exact hb⟩
  rw[ed,<-e,Qs];refine eS (ρ1:=[a,.val (.int B),.val (dq x)]) rfl ?_
  symm;rw[oMul_i (bQ (m:=m) (n:=20) h2 hx (by omega))];symm
theorem zEX{B:Int}(hB:B.natAbs<2^1000):∀ {l:List Rat},(∀ x∈l,(x.den:Int)<=10^6/\Sz 500 x)->oY B (l.map dq)=.ok (l.map (zKj B))
 | [],_=>rfl
 | x::r,h=>by
  obtain⟨d1,z⟩:=h x Qb;have d0:=gE x;have e1:mH (x.den:Int)=true:=uG (m:=20) (by omega) (by omega) (by decide)
  have e2:kI x.num (B.fdiv x.den)=true:=by
   rw[fdiv_pos _ d0];refine bQ (m:=500) (n:=1000) z.1 (Vq ?_ hB) (by decide)
   exact Int.natAbs_ediv_le_natAbs _ _
  have k1:zKf B (dq x)=.ok (zKj B x):=by
   show(if (mH (x.den:Int) && kI x.num (B.fdiv x.den))=true then Res.ok _ else .no)=_
   rw[e1,e2];rfl
  rw[Qs,oY,k1];show((oY B (r.map dq)).bind fun ks=>Res.ok (zKj B x::ks))=_
  rw[zEX hB fun y hy=>h y (Qc _ hy)];rfl
theorem yN{l:List Rat}(h:∀ x∈l,(x.den:Int)<=10^6/\Sz 500 x)(hl:l.length<=12):jZ [.lst (l.map dq)]=.ok (l.map (zKj (uC l))):=by
 obtain⟨s',e,hb⟩:=zCs (a:=.val (.lst (l.map dq))) l 1 .un 1 (fun x hx=>(h x hx).1) (by decide) (by omega)
 rw[XJ] at e hb;have r1:zDz (start 3 [.lst (l.map dq)])=.ok (.nx [.val (.lst (l.map dq)),.val (.int 1),.un]):=rfl
 have r2:wG [.val (.lst (l.map dq)),.val (.int 1),.un]=.ok (.nx [.val (.lst (l.map dq)),.val (.int (uC l)),s']):=by
  symm;exact e
 unfold jZ zBE;rw[if_pos (show [D.lst (l.map dq)].length=1 from rfl),r1];show(match wG [.val (.lst (l.map dq)),.val (.int 1),.un] with | .ok (.nx ρ')=>zER ρ' | _=>.no)=_
 rw[r2];show(if (l.map dq).length<64 then oY (uC l) (l.map dq) else .no)=_
 rw[if_pos (by rw[Qe];omega)];exact zEX (Qp hb (Vc (by decide) (by omega))) h
def lvs(ws cs:List Int):List Rat:=(cs.zip ws).map fun p=>Rat.divInt p.1 p.2
theorem zAh{ws cs:List Int}(h:ws.length=cs.length):(lvs ws cs).length=cs.length:=by unfold lvs;rw[Qe,X3,h,Xp]
theorem zIP{ws cs:List Int}{i:Nat}(h:ws.length=cs.length)(hi:i<cs.length):(lvs ws cs)[i]?=some (cR cs i / cR ws i):=by
 unfold lvs;rw[Qr]
 have:(cs.zip ws)[i]?=some (cs.getD i 0,ws.getD i 0):=by
  rw[YB];exact⟨bP hi,bP (by omega)⟩
 rw[this];show some (Rat.divInt _ _)=_
 rw[VC];rfl
theorem zFh{t b:Int}(hb:0<b):((Rat.divInt t b).den:Int)<=b:=by
 have e:=yT (t:=t) (b:=b) (by omega)
 have d0:0<=dv t b:=by unfold dv;rw[if_neg (by omega)];exact Vg _
 rw[<-e,zOj _ d0];exact Int.ediv_le_self _ (by omega)
theorem zMr{ws cs:List Int}(hW:Wt ws cs)(hc:∀ c∈cs,0<=c/\c<10^30):∀ x∈lvs ws cs,(x.den:Int)<=10^6/\Sz 500 x:=fun x hx=>by
 obtain⟨p,hp,rfl⟩:=Qo.mp hx;obtain⟨h1,h2⟩:=VV hp;have c:=hc _ h1;have w1:=hW.lo _ h2;have w2:=hW.up _ h2;have d:=zFh (t:=p.1) (b:=p.2) (by omega)
 exact⟨by omega,Sz.of (by omega) (by omega) (by omega)⟩
theorem wL{ws cs:List Int}{wd cd:D}(sw:Sq wd ws)(sc:Sq cd cs)(hW:Wt ws cs)(hl:cs.length<=12):eH [wd,cd]=.ok (.f ((lvs ws cs).map dq)):=by
 have hw:=hW.len;unfold eH;symm;rw[mQ sc.seqo sw.seqo];symm
 rw[mM (u:=D.int) (v:=D.int) (g:=fun c w=>dq (Rat.divInt c w)) (by omega) (fun p hp=>by
  have h2:=(VV hp).2;have w1:=hW.lo _ h2;have w2:=hW.up _ h2;symm;rw[zCt (n:=20) (by omega) (by omega) (by decide)]
  symm)]
 symm;unfold lvs;rw[Qv];rfl
theorem zBI(ws:List Int):∀ n,n<=ws.length->wS ws (List.range n)=(ws.take n).sum
 | 0,_=>rfl
 | n+1,h=>by
  have e:wS ws (List.range n++[n])=wS ws (List.range n)+ws.getD n 0:=by unfold wS;rw[QH,Vt];simp
  rw[X1,e,zBI ws n (by omega),XM,Vt,bP (show n<ws.length by omega)];simp
theorem zAb{ws:List Int}{π:List Nat}(h:π.Perm (List.range ws.length)):wS ws π=ws.sum:=by
 have e:=mZ ws π;rw[vZ h,mZ,zBI ws _ (Qg _),Ve] at e;have:=Rat.intCast_inj.mp e
 omega
theorem zLB{a b:Sv}{ρ ρ':Rho}(h:a ρ=.ok (.nx ρ')):aX a b ρ=b ρ':=by unfold aX;rw[h];rfl
def evs(ws cs:List Int)(t:Rat):List Rat:=(List.range cs.length).map (dY (cR cs) (cR ws) t)
theorem sY{ws cs:List Int}{wd cd:D}(sw:Sq wd ws)(sc:Sq cd cs){q:Rat}{m:Nat}(hmm:m<=3000)(hW:Wt ws cs)(hc:Cl cs)(hq:Sz m q)(h0:0<=q)(h1:q<=(cs.sum:Rat)):∃ t,0<=t/\dJ [wd,cd,dq q]=.ok (.f ((evs ws cs t).map dq))/\(evs ws cs t).sum=q/\∀ i,i<cs.length->Sz (m+155) (dY (cR cs) (cR ws) t i):=by
 have hcc:∀ c∈cs,0<=c/\c<10^30:=fun c h=>⟨hc.nn c h,hc.up c h⟩
 have hi:=hc.hi;have hw:=hW.len;have hkr:=yN (zMr hW hcc) (by rw[zAh hw];exact hi)
 generalize hkz:(lvs ws cs).map (zKj (uC (lvs ws cs)))=kz at hkr;have lz:kz.length=cs.length:=by rw[<-hkz,Qe,zAh hw]
 have pw:∀ j,j<cs.length->0<cR ws j:=fun j hj=>by
  have:=(hW.at hj).1
  unfold cR;exact_mod_cast (show 0<ws.getD j 0 by omega)
 have one:∀ π,hZ kz π->∃ t,0<=t/\iY (dY (cR cs) (cR ws) t) (List.range cs.length)=q/\(∀ i,i<cs.length->Sz (m+155) (dY (cR cs) (cR ws) t i))/\aX (fun ρ=>fS (gName 6) bY (kO π) ρ) kT [.val wd,.val cd,.val (dq q),.val (dq q),.val (.int ws.sum),.own (List.replicate cs.length (dq 0)),.un,.un]=.ok (.ret (.f ((evs ws cs t).map dq))):=by
  intro π hπ;obtain⟨hp,ho⟩:=hπ;rw[lz] at hp;have hm:∀ i∈π,i<cs.length:=fun i h=>Qj.mp (hp.mem_iff.mp h)
  have hl:π.length=cs.length:=by rw[hp.length_eq,Qy]
  have B0:=zBA (lvs ws cs);have B0':(0:Rat)<(uC (lvs ws cs):Rat):=by exact_mod_cast B0
  have kat:∀ i,i<cs.length->((kz.getD i 0:Int):Rat)=cR cs i / cR ws i*(uC (lvs ws cs):Rat):=fun i h=>by
   have e:=zIP hw h;have e2:kz.getD i 0=zKj (uC (lvs ws cs)) (cR cs i / cR ws i):=by rw[<-hkz,Qx,Qr,e];rfl
   rw[e2];exact zMl (Qi e)
  have ord:π.Pairwise (fun i j=>cR cs i*cR ws j<=cR cs j*cR ws i):=by
   refine VZ (fun {i j} h1 h2 h3=>?_) ho
   have h4:((kz.getD i 0:Int):Rat)<=((kz.getD j 0:Int):Rat):=Vu.mpr h3;rw[kat i (hm i h1),kat j (hm j h2)] at h4;have h5:=VR h4 B0';have wi:=pw i (hm i h1);have wj:=pw j (hm j h2);have h6:=Q3 h5 (Qf (XQ wi wj));have e1:cR cs i / cR ws i*(cR ws i*cR ws j)=cR cs i*cR ws j:=by grind
   have e2:cR cs j / cR ws j*(cR ws i*cR ws j)=cR cs j*cR ws i:=by grind
   rwa [e1,e2] at h6
  have hW':wS ws π=ws.sum:=zAb (by rw[hw];exact hp)
  have hC':iY (cR cs) π=(cs.sum:Rat):=by rw[mZ,zAb hp]
  have z0:q-((0:Int):Rat)=q:=by rw[show((0:Int):Rat)=0 from rfl];grind
  obtain⟨t,t1,t2,tz,l',W',s',t',e⟩:=zCw sw sc (qv:=.val (dq q)) hmm hW hcc hq π 0 0 (List.replicate cs.length (dq 0)) .un .un hm ord (by omega) (by rw[VI]) (by decide) (by rw[hl];omega) (by rw[z0];exact h0) (by rw[z0,hC'];exact h1) (by rw[z0];grind)
  rw[z0,hW'] at e;rw[z0] at t2;refine⟨t,t1,by rw[<-vZ hp];exact t2,fun i h=>tz i (hp.mem_iff.mpr (Qj.mpr h)),?_⟩
  refine(zLB (a:=fun ρ=>fS (gName 6) bY (kO π) ρ) e).trans ?_
  rw[zGX hp];rfl
 obtain⟨π0,hπ0⟩:=zEq kz;obtain⟨t,t1,t2,tz,e0⟩:=one π0 hπ0;have pw':∀ i∈List.range cs.length,0<cR ws i:=fun i h=>pw i (Qj.mp h)
 refine⟨t,t1,?_,t2,tz⟩
 unfold dJ;symm;rw[sw.sum];symm;rw[sc.len];symm;rw[zEV (by omega)];symm
 have hfs:Res.bind ((aD (eF (dH eH (aD (aG 0) (aD (aG 1) aNil)))) aNil) [.val wd,.val cd,.val (dq q),.val (dq q),.val (.int ws.sum),.own (List.replicate cs.length (dq 0)),.un,.un]) jZ=.ok kz:=by
  symm;rw[wL sw sc hW hi];symm;exact hkr
 have hall:∀ π,hZ kz π->aX (fun ρ=>fS (gName 6) bY (kO π) ρ) kT [.val wd,.val cd,.val (dq q),.val (dq q),.val (.int ws.sum),.own (List.replicate cs.length (dq 0)),.un,.un]=.ok (.ret (.f ((evs ws cs t).map dq))):=fun π hπ=>by
  obtain⟨u,_,u2,_,eu⟩:=one π hπ;rw[eu];unfold evs;rw[Q6 (zBg pw' (u2.trans t2.symm))]
 unfold oP;rw[zHZ hfs hall];rfl
def ones(cs:List Int):List Int:=List.replicate cs.length 1
theorem fE(cs:List Int):Wt (ones cs) cs:=⟨VI,fun w h=>by rw[(List.mem_replicate.mp h).2];decide,fun w h=>by rw[(List.mem_replicate.mp h).2];decide⟩
def hf:Rat:=Rat.divInt 1 2
theorem jO:hf=1 / 2:=by unfold hf;rw[VC];rfl
theorem zPy:d_HALF=dq hf:=zQg (b:=2) (by decide)
theorem zIS:Sz 2 hf:=Sz.of (by decide) (by decide) (by decide)
theorem dbl(q:Rat):q+q=q*((2:Int):Rat):=by rw[show((2:Int):Rat)=2 from rfl];grind
theorem zJo{q:Rat}{n:Nat}(h:Sz n q):Sz (n+2) (q+q):=by rw[dbl];exact h.mul (cZ (by decide) (by decide))
def hvs(cs:List Int)(t:Rat):List Rat:=(List.range cs.length).map fun i=>dY (cR cs) (cR (ones cs)) t i*hf
structure Lvl (M:Nat) (ws cs:List Int) (q t:Rat):Prop where
 nn:0<=t
 sum:(evs ws cs t).sum=q
 sz:∀ i,i<cs.length->Sz M (dY (cR cs) (cR ws) t i)
theorem zBV{cs:List Int}{cd:D}(sc:Sq cd cs){q:Rat}{m:Nat}(hm:m<=2990)(hc:Cl cs)(hq:Sz m q)(h0:0<=q)(h1:q+q<=(cs.sum:Rat)):∃ t,Lvl (m+157) (ones cs) cs (q+q) t/\fN [cd,dq q]=.ok (.f ((hvs cs t).map dq)):=by
 have hi:=hc.hi;obtain⟨t,t1,e,t2,tz⟩:=sY (wd:=.lst ((ones cs).map D.int)) (.inl rfl) sc (m:=m+2) (by omega) (fE cs) hc (zJo hq) (by grind) h1
 refine⟨t,⟨t1,t2,fun i h=>(tz i h).mono (by omega)⟩,?_⟩
 have eo:(ones cs).map D.int=List.replicate cs.length (.int 1):=by unfold ones;rw[List.map_replicate]
 rw[eo] at e;have hh:=zPy;unfold d_HALF at hh;unfold fN;symm;rw[sc.len];symm;rw[zEV (by omega)];symm;rw[zBP hq hq (by omega)];symm;rw[e];symm;rw[show(evs (ones cs) cs t).map dq=(List.range cs.length).map (fun i=>dq (dY (cR cs) (cR (ones cs)) t i)) by unfold evs;rw[Qv];rfl]
 rw[fA (u:=fun i=>dq (dY (cR cs) (cR (ones cs)) t i)) (g:=fun i=>dq (dY (cR cs) (cR (ones cs)) t i*hf)) (by rw[Qy];omega) (fun i h=>by
  have hil:=Qj.mp h;symm;rw[hh,nM (tz i hil) zIS (by omega)]
  symm)]
 symm;unfold hvs;rw[Qv];rfl
theorem Lvl.mono{M M':Nat}{ws cs:List Int}{q t:Rat}(h:Lvl M ws cs q t)(l:M<=M'):Lvl M' ws cs q t:=⟨h.nn,h.sum,fun i hi=>(h.sz i hi).mono l⟩
theorem wT{w v:Str}(h:aW.lookup w=some v):eG [.str w]=.ok (.v .non):=by
 unfold eG;symm;rw[h];rfl
theorem wM{cs:List Int}{cd:D}(sc:Sq cd cs)(hc:Cl cs):eD [cd]=.ok (.v .non):=by
 have lo:=hc.lo;unfold eD;symm;rw[sc.len];symm;rw[decide_eq_false (by omega)];symm;rw[sc.seq];symm;refine zAW (Q:=fun r=>r=(.ok (.v .non):Res Rt)) (fun ρ=>∃ a,ρ=[.val cd,a]) ⟨_,rfl⟩ ?_ ?_
 ·rintro e ρ he ⟨a,rfl⟩
  obtain⟨c,h,rfl⟩:=Qo.mp he;have:=hc.nn c h
  refine⟨_,?_,.val (.int c),rfl⟩
  symm;rw[decide_eq_false (by omega)];symm
 ·rintro ρ ⟨a,rfl⟩
  rfl
theorem mC{q:Rat}{W:Int}{m:Nat}(hm:m<=3000)(h:Haul m q W)(hW:W.natAbs<2^110):bH [dq q,dq (W:Rat)]=.ok (.v .non):=by
 have z0:Sz 1 (0:Rat):=⟨by decide,by decide⟩
 have zW:Sz 110 (W:Rat):=cZ hW (by decide)
 have n1:¬ q<0:=Q7.mpr h.nn;have n2:¬ (W:Rat)<q:=Q7.mpr h.up
 have io:eE [dq q,dq (W:Rat)]=.ok (.v (.bl false)):=by
  unfold eE;symm;rw[jT h.sz z0 (by omega),decide_eq_false n1];symm;rw[jT zW h.sz (by omega),decide_eq_false n2];symm
 unfold bH;symm;rw[io];symm
theorem mO{α β:Type}(l:List α)(f:Nat->β)(d:α):l.zip ((List.range l.length).map f)=(List.range l.length).map fun i=>(l.getD i d,f i):=by
 refine V5 fun i=>?_
 rw[Qr];by_cases h:i<l.length
 ·rw[Vd h]
  refine YB.mpr ⟨?_,by rw[Qr,Vd h];rfl⟩
  show l[i]?=some (l.getD i d)
  rw[Qx,Ql h];rfl
 ·rw[QA (by rw[X3];omega),QA (by rw[Qy];omega)];rfl
theorem kH{w:Str}{d:D}{n:Int}(hd:d=.lst []∨d=.tup [])(hw:oIn (.str w) d_WEIGHTED=.ok (.bl false)):bT [.str w,d,.int n]=.ok (.v .non):=by
 have sq:zMw d=.ok []:=by rcases hd with rfl | rfl<;>rfl
 have ln:kU [d]=.ok (.int 0):=by rcases hd with rfl | rfl<;>rfl
 unfold d_WEIGHTED at hw;unfold bT;symm;rw[hw];symm;rw[ln];symm;rw[sq];rfl
theorem zTa:sR 10 6=true:=by decide
theorem pX{w:Str}{ws cs:List Int}{wd:D}(sw:Sq wd ws)(hW:Wt ws cs)(hw:oIn (.str w) d_WEIGHTED=.ok (.bl true)):bT [.str w,wd,.int cs.length]=.ok (.v .non):=by
 have hl:=hW.len;unfold d_WEIGHTED at hw;unfold bT;symm;rw[hw];symm;rw[sw.len];symm;rw[hl,decide_eq_true rfl];symm;rw[sw.seq];symm;refine zAW (Q:=fun r=>r=(.ok (.v .non):Res Rt)) (fun ρ=>∃ a,ρ=[.val (.str w),.val wd,.val (.int cs.length),.val (.int cs.length),a]) ⟨_,rfl⟩ ?_ ?_
 ·rintro e ρ he ⟨a,rfl⟩
  obtain⟨c,h,rfl⟩:=Qo.mp he;have h1:=hW.lo c h;have h2:=hW.up c h;refine⟨_,?_,.val (.int c),rfl⟩
  symm;rw[decide_eq_false (by omega)];symm;rw[oPow_i zTa];symm;rw[decide_eq_false (by omega)];symm
 ·rintro ρ ⟨a,rfl⟩
  rfl
theorem zSw:(Str.ofString "even" == Str.ofString "row")=false:=by decide
theorem zSp:(Str.ofString "lack" == Str.ofString "row")=false:=by decide
theorem zSr:(Str.ofString "lack" == Str.ofString "even")=false:=by decide
theorem zSg:(Str.ofString "lack" == Str.ofString "part")=false:=by decide
theorem zSk:(Str.ofString "lack" == Str.ofString "half")=false:=by decide
theorem zFB:(aW.lookup (Str.ofString "even"))=some (Str.ofString "lack"):=by decide
theorem zR:(aW.lookup (Str.ofString "lack"))=some (Str.ofString "even"):=by decide
theorem zMf{n:Nat}{ws cs:List Int}{wd cd:D}(sw:Sq wd ws)(sc:Sq cd cs){q:Rat}{m:Nat}(hm:m<=3000)(hW:Wt ws cs)(hc:Cl cs)(hq:Sz m q)(h0:0<=q)(h1:q<=(cs.sum:Rat)):∃ t,Lvl (m+155) ws cs q t/\aR (n+1) [.str (Str.ofString "even"),wd,cd,dq q]=.ok (.f ((evs ws cs t).map dq)):=by
 obtain⟨t,t1,e,t2,tz⟩:=sY sw sc hm hW hc hq h0 h1;refine⟨t,⟨t1,t2,tz⟩,?_⟩
 show aV (aR n) _=_
 unfold aV;symm;rw[sc.sum];symm;rw[bU];symm;rw[zSw];symm;rw[e];symm
def lks(ws cs:List Int)(t:Rat):List Rat:=(cs.zip (evs ws cs t)).map fun p=>(p.1:Rat)-p.2
theorem zPK(ws cs:List Int)(t:Rat):lks ws cs t=(List.range cs.length).map fun i=>cR cs i-dY (cR cs) (cR ws) t i:=by
 unfold lks evs;rw[mO cs _ 0,Qv];rfl
theorem zPV{n:Nat}{ws cs:List Int}{wd cd:D}(sw:Sq wd ws)(sc:Sq cd cs){q:Rat}{m:Nat}(hm:m<=2890)(hW:Wt ws cs)(hc:Cl cs)(hq:Haul m q cs.sum):∃ t,Lvl (m+261) ws cs ((cs.sum:Rat)-q) t/\aR (n+2) [.str (Str.ofString "lack"),wd,cd,dq q]=.ok (.f ((lks ws cs t).map dq)):=by
 have sm:=hc.sum;have hi:=hc.hi;have zW:Sz 105 (cs.sum:Rat):=cZ (by omega) (by decide)
 have zT:Sz (m+106) ((cs.sum:Rat)-q):=(zW.sub hq.sz).mono (by omega)
 have u:=hq.up;have u':=hq.nn;obtain⟨t,tl,e⟩:=zMf sw sc (n:=n) (m:=m+106) (by omega) hW hc zT (by grind) (by grind)
 refine⟨t,tl,?_⟩
 show aV (aR (n+1)) _=_
 unfold aV;symm;rw[sc.sum];symm;rw[bU];symm;rw[zSp];symm;rw[zSr];symm;rw[zSg];symm;rw[zSk];symm;rw[show vD aW (.str (Str.ofString "lack"))=.ok (.str (Str.ofString "even")) by show zOO (aW.lookup (Str.ofString "lack"))=_;rw[zR];rfl];symm;rw[eQ zW hq.sz (by omega)];symm;rw[e];symm;rw[mQ sc.seqo rfl];symm
 rw[mM (u:=D.int) (v:=dq) (g:=fun c l=>dq ((c:Rat)-l)) (by omega) (fun p hp=>by
  have hp':=hp;unfold evs at hp';rw[mO cs _ 0] at hp';obtain⟨i,hir,rfl⟩:=Qo.mp hp';have hil:=Qj.mp hir;have c1:=hc.nn _ (Qi (bP hil));have c2:=hc.up _ (Qi (bP hil));symm;rw[bU];symm;rw[eQ (m:=100) (n:=m+261) (cZ (by omega) (by decide)) (tl.sz i hil) (by omega)]
  symm)]
 symm;unfold lks;rw[Qv];rfl
theorem zRx:(Str.ofString "half" == Str.ofString "row")=false:=by decide
theorem zRt:(Str.ofString "half" == Str.ofString "even")=false:=by decide
theorem zRz:(Str.ofString "half" == Str.ofString "part")=false:=by decide
theorem zAd:(aW.lookup (Str.ofString "half"))=some (Str.ofString "half"):=by decide
theorem zHL{n:Nat}{e:D}{cs:List Int}{cd:D}(sc:Sq cd cs){q:Rat}{m:Nat}(hm:m<=2990)(hc:Cl cs)(hq:Sz m q)(h0:0<=q)(h1:q+q<=(cs.sum:Rat)):∃ t,Lvl (m+157) (ones cs) cs (q+q) t/\aR (n+1) [.str (Str.ofString "half"),e,cd,dq q]=.ok (.f ((hvs cs t).map dq)):=by
 have sm:=hc.sum;have zW:Sz 105 (cs.sum:Rat):=cZ (by omega) (by decide)
 obtain⟨t,tl,ee⟩:=zBV sc hm hc hq h0 h1;refine⟨t,tl,?_⟩
 show aV (aR n) _=_
 unfold aV;symm;rw[sc.sum];symm;rw[bU];symm;rw[zRx];symm;rw[zRt];symm;rw[zRz];symm;rw[zBP hq hq (by omega)];symm;rw[jT zW (zJo hq) (by omega),decide_eq_false (Q7.mpr h1)];symm;rw[ee];symm
def lhs(cs:List Int)(t:Rat):List Rat:=(List.range cs.length).map fun i=>cR cs i-dY (cR cs) (cR (ones cs)) t i*hf
theorem zOa{n:Nat}{e:D}{cs:List Int}{cd:D}(sc:Sq cd cs){q:Rat}{m:Nat}(hm:m<=2880)(hc:Cl cs)(hq:Haul m q cs.sum)(h1:(cs.sum:Rat)<q+q):∃ t,Lvl (m+263) (ones cs) cs (((cs.sum:Rat)-q)+((cs.sum:Rat)-q)) t/\aR (n+2) [.str (Str.ofString "half"),e,cd,dq q]=.ok (.f ((lhs cs t).map dq)):=by
 have sm:=hc.sum;have hi:=hc.hi;have zW:Sz 105 (cs.sum:Rat):=cZ (by omega) (by decide)
 have zT:Sz (m+106) ((cs.sum:Rat)-q):=(zW.sub hq.sz).mono (by omega)
 have u:=hq.up;obtain⟨t,tl,ee⟩:=zHL sc (n:=n) (e:=e) (m:=m+106) (by omega) hc zT (by grind) (by grind)
 refine⟨t,tl,?_⟩
 show aV (aR (n+1)) _=_
 unfold aV;symm;rw[sc.sum];symm;rw[bU];symm;rw[zRx];symm;rw[zRt];symm;rw[zRz];symm;rw[zBP hq.sz hq.sz (by omega)];symm;rw[jT zW (zJo hq.sz) (by omega),decide_eq_true h1];symm;rw[show vD aW (.str (Str.ofString "half"))=.ok (.str (Str.ofString "half")) by show zOO (aW.lookup (Str.ofString "half"))=_;rw[zAd];rfl];symm;rw[eQ zW hq.sz (by omega)];symm;rw[ee];symm;rw[mQ sc.seqo rfl];symm
 rw[mM (u:=D.int) (v:=dq) (g:=fun c l=>dq ((c:Rat)-l)) (by omega) (fun p hp=>by
  have hp':=hp;unfold hvs at hp';rw[mO cs _ 0] at hp';obtain⟨i,hir,rfl⟩:=Qo.mp hp';have hil:=Qj.mp hir;have c1:=hc.nn _ (Qi (bP hil));have c2:=hc.up _ (Qi (bP hil));symm;rw[bU];symm;rw[eQ (m:=100) (n:=m+263+2) (cZ (by omega) (by decide)) ((tl.sz i hil).mul zIS) (by omega)]
  symm)]
 symm;unfold hvs lhs;rw[mO cs _ 0,Qv,Qv];rfl
theorem zSd:(Str.ofString "back" == Str.ofString "row")=false:=by decide
theorem zSC:(Str.ofString "back" == Str.ofString "even")=false:=by decide
theorem zSB:(Str.ofString "back" == Str.ofString "part")=false:=by decide
theorem zSh:(Str.ofString "back" == Str.ofString "half")=false:=by decide
theorem zSm:(Str.ofString "part" == Str.ofString "row")=false:=by decide
theorem zSD:(Str.ofString "part" == Str.ofString "even")=false:=by decide
theorem zIL:(aW.lookup (Str.ofString "row"))=some (Str.ofString "back"):=by decide
theorem zAz:(aW.lookup (Str.ofString "back"))=some (Str.ofString "row"):=by decide
theorem zFv:(aW.lookup (Str.ofString "part"))=some (Str.ofString "part"):=by decide
theorem zQe{n:Nat}{d e:D}{cs:List Int}{q:Rat}(hd:d=.lst (cs.map D.int)∨d=.tup (cs.map D.int)){m:Nat}(hm:m<=3000)(hc:Cl cs)(hq:Sz m q)(h0:0<=q):aR (n+1) [.str (Str.ofString "row"),e,d,dq q]=.ok (.f ((jL cs 0 q).map dq)):=by
 have su:zCE [d]=.ok (.int cs.sum):=by rcases hd with rfl | rfl;exact bSum_l;exact bSum_t
 show aV (aR n) _=_
 unfold aV;symm;rw[su];symm;rw[bU];symm;rw[zEk hd hm hc hq h0];symm
theorem zPN{n:Nat}{d e:D}{cs:List Int}{q:Rat}(hd:d=.lst (cs.map D.int)∨d=.tup (cs.map D.int)){m:Nat}(hm:m<=3000)(hc:Cl cs)(hq:Sz m q):aR (n+1) [.str (Str.ofString "part"),e,d,dq q]=.ok (.f ((zAT cs q).map dq)):=by
 have su:zCE [d]=.ok (.int cs.sum):=by rcases hd with rfl | rfl;exact bSum_l;exact bSum_t
 show aV (aR n) _=_
 unfold aV;symm;rw[su];symm;rw[bU];symm;rw[zSm];symm;rw[zSD];symm;rw[zBS hd hm hc hq];symm
theorem zLI(f g:Nat->Rat):∀ n:Nat,((List.range n).map fun i=>f i-g i).sum=((List.range n).map f).sum-((List.range n).map g).sum
 | 0=>by simp only[List.range_zero,Vp,X9];grind
 | n+1=>by
  rw[X1,QH,QH,QH,Vt,Vt,Vt,zLI f g n];simp only[Qs,Vp,QF,X9];grind
theorem tK(cs:List Int):((List.range cs.length).map (cR cs)).sum=(cs.sum:Rat):=by
 have e:=mZ cs (List.range cs.length);rw[zBI cs _ (Qg _),Ve] at e;exact e
theorem pI{ws cs:List Int}{t:Rat}(hW:Wt ws cs)(hc:Cl cs)(h0:0<=t){i:Nat}(hi:i<cs.length):0<=dY (cR cs) (cR ws) t i/\dY (cR cs) (cR ws) t i<=cR cs i:=by
 have w:=(hW.at hi).1;have c:=hc.nn _ (Qi (bP hi));have w':(0:Rat)<=cR ws i:=by unfold cR;exact_mod_cast (show 0<=ws.getD i 0 by omega)
 have c':(0:Rat)<=cR cs i:=by unfold cR;exact_mod_cast c
 have:=Xi w' h0
 unfold dY mn;grind
theorem zLG(x:Rat):(x.num:Rat)=x*((x.den:Int):Rat):=by
 have d0:=gE x
 have nd:((x.den:Int):Rat)≠0:=fun z=>by
  have:(x.den:Int)=0:=by exact_mod_cast z
  omega
 have h1:=Vb x;rw[VC] at h1;rw[<-Q8 (a:=(x.num:Rat)) nd,h1]
theorem zJw{l:List Rat}{n:Nat}(h:l.length=n):l=(List.range n).map fun i=>l.getD i 0:=by
 refine V5 fun i=>?_
 rw[Qr];by_cases hi:i<n
 ·rw[Vd hi,Ql (by omega)]
  show _=some (l.getD i 0)
  rw[Qx,Ql (by omega)];rfl
 ·rw[QA (by omega),QA (by rw[Qy];omega)];rfl
def zFw(cs:List Int)(q:Rat)(i:Nat):Rat:=(jL cs 0 q).getD i 0
theorem zIk:∀(cs:List Int)(a:Int)(q:Rat)(i:Nat),(∀ c∈cs,0<=c)->i<cs.length->0<=(jL cs a q).getD i 0/\(jL cs a q).getD i 0<=cR cs i
 | c::r,a,q,0,h,_=>by
  have c0:(0:Rat)<=(c:Rat):=by exact_mod_cast h c Qb
  show 0<=mn (ps0 (q-(a:Rat))) (c:Rat)/\mn (ps0 (q-(a:Rat))) (c:Rat)<=(c:Rat)
  unfold mn ps0;grind
 | c::r,a,q,i+1,h,hi=>zIk r (a+c) q i (fun x hx=>h x (Qc _ hx)) (by rw[Qn] at hi;omega)
theorem vH:∀(cs:List Int)(a:Int){q q':Rat}(i:Nat),q<=q'->(jL cs a q).getD i 0<=(jL cs a q').getD i 0
 | [],_,_,_,_,_=>Qh
 | c::r,a,q,q',0,h=>by
  show mn (ps0 (q-(a:Rat))) (c:Rat)<=mn (ps0 (q' - (a:Rat))) (c:Rat)
  unfold mn ps0;grind
 | c::r,a,q,q',i+1,h=>vH r (a+c) i h
theorem zFW:∀(cs:List Int)(a:Int)(q:Rat),(∀ c∈cs,0<=c)->0<=cs.sum/\(jL cs a q).sum=mn (ps0 (q-(a:Rat))) (cs.sum:Rat)
 | [],a,q,_=>⟨V7 _,by show(0:Rat)=mn (ps0 _) ((0:Int):Rat);rw[show((0:Int):Rat)=0 from rfl];unfold mn ps0;grind⟩
 | c::r,a,q,h=>by
  have c0:=h c Qb;obtain⟨s0,e⟩:=zFW r (a+c) q fun x hx=>h x (Qc _ hx)
  have c0':(0:Rat)<=(c:Rat):=by exact_mod_cast c0
  have s0':(0:Rat)<=(r.sum:Rat):=by exact_mod_cast s0
  rw[QF];refine⟨by omega,?_⟩
  rw[jL,QF,e,QU,QU];unfold mn ps0;grind
theorem zHX{q:Rat}{m:Nat}(hq:Sz m q):∀(cs:List Int)(a:Int),(∀ c∈cs,0<=c)->(∀ c∈cs,c<10^30)->0<=a->a+cs.length*10^30<2^110->∀ x∈jL cs a q,Sz (m+111) x
 | [],_,_,_,_,_,x,hx=>by cases hx
 | c::r,a,h1,h2,h3,h4,x,hx=>by
  have c0:=h1 c Qb;have c1:=h2 c Qb;rw[Qn] at h4;have e4:((r.length+1:Nat):Int)*10^30=(r.length:Int)*10^30+10^30:=by rw[V8,V9];rfl
  have r0:0<=(r.length:Int)*10^30:=X6 (by omega) (by decide)
  rw[jL] at hx;rcases Qd.mp hx with rfl | hx
  ·exact zNy (zQP (hq.sub (cZ (n:=110) (by omega) (by decide))) (by omega)) (Sz.mono (m:=100) (cZ (by omega) (by decide)) (by omega))
  ·exact zHX hq r (a+c) (fun x hx=>h1 x (Qc _ hx)) (fun x hx=>h2 x (Qc _ hx)) (by omega) (by omega) x hx
theorem zDJ{cs:List Int}{q:Rat}{m:Nat}(hc:Cl cs)(hq:Sz m q)(h0:0<=q)(h1:q<=(cs.sum:Rat)):(jL cs 0 q=(List.range cs.length).map (zFw cs q))/\(jL cs 0 q).sum=q/\∀ x∈jL cs 0 q,Sz (m+111) x:=by
 have hi:=hc.hi;refine⟨zJw (zCr _ _ _),?_,zHX hq cs 0 hc.nn hc.up (by decide) (by omega)⟩
 rw[(zFW cs 0 q hc.nn).2,show((0:Int):Rat)=0 from rfl];unfold mn ps0;grind
theorem zPJ{n:Nat}{e:D}{cs:List Int}{cd:D}(sc:Sq cd cs){q:Rat}{m:Nat}(hm:m<=2890)(hc:Cl cs)(hq:Haul m q cs.sum):aR (n+2) [.str (Str.ofString "back"),e,cd,dq q]=.ok (.f (((List.range cs.length).map fun i=>cR cs i-zFw cs ((cs.sum:Rat)-q) i).map dq)):=by
 have sm:=hc.sum;have hi:=hc.hi;have zW:Sz 105 (cs.sum:Rat):=cZ (by omega) (by decide)
 have zT:Sz (m+106) ((cs.sum:Rat)-q):=(zW.sub hq.sz).mono (by omega)
 have u:=hq.up;have u':=hq.nn;obtain⟨r1,r2,r3⟩:=zDJ hc zT (by grind) (by grind)
 have ee:=zQe (n:=n) (e:=e) sc (m:=m+106) (by omega) hc zT (by grind)
 show aV (aR (n+1)) _=_
 unfold aV;symm;rw[sc.sum];symm;rw[bU];symm;rw[zSd];symm;rw[zSC];symm;rw[zSB];symm;rw[zSh];symm;rw[show vD aW (.str (Str.ofString "back"))=.ok (.str (Str.ofString "row")) by show zOO (aW.lookup (Str.ofString "back"))=_;rw[zAz];rfl];symm;rw[eQ zW hq.sz (by omega)];symm;rw[ee];symm;rw[mQ sc.seqo rfl];symm
 rw[mM (u:=D.int) (v:=dq) (g:=fun c l=>dq ((c:Rat)-l)) (by omega) (fun p hp=>by
  obtain⟨p1,p2⟩:=VV hp;have c1:=hc.nn _ p1;have c2:=hc.up _ p1;symm;rw[bU];symm;rw[eQ (m:=100) (n:=m+106+111) (cZ (by omega) (by decide)) (r3 _ p2) (by omega)]
  symm)]
 symm;rw[r1,mO cs _ 0,Qv,Qv];rfl
def kR(cs:List Int)(q:Rat)(i:Nat):Rat:=(zAT cs q).getD i 0
theorem zGg{cs:List Int}{q:Rat}{i:Nat}(hi:i<cs.length):kR cs q i=Rat.divInt (cs.getD i 0*q.num) (max 1 cs.sum*q.den):=by
 unfold kR zAT;rw[Qx,Qr,bP hi];rfl
theorem jM{cs:List Int}{q:Rat}(hc:Cl cs){i:Nat}(hi:i<cs.length):kR cs q i*(cs.sum:Rat)=q*cR cs i/\(cs.sum=0->kR cs q i=0):=by
 have sm:=hc.sum;have e:=zGg (q:=q) hi;by_cases z:cs.sum=0
 ·have c0:=rE hc.nn z _ (Qi (bP hi))
  have p0:kR cs q i=0:=by rw[e,c0,Int.zero_mul,XS]
  refine⟨?_,fun _=>p0⟩
  rw[p0];unfold cR;rw[c0,show((0:Int):Rat)=0 from rfl];grind
 ·have W0:0<cs.sum:=by omega
  have nW:(cs.sum:Rat)≠0:=fun y=>by
   have:cs.sum=0:=by exact_mod_cast y
   omega
  refine⟨?_,fun y=>absurd y z⟩
  rw[e,Int.max_eq_right (by omega),<-zJU W0];show q / (cs.sum:Rat)*cR cs i*(cs.sum:Rat)=_
  grind
theorem zHC{cs:List Int}{q:Rat}{m:Nat}(hc:Cl cs)(hq:Sz m q){i:Nat}(hi:i<cs.length):Sz (m+370) (kR cs q i):=by
 have sm:=hc.sum;have c1:=hc.nn _ (Qi (bP hi));have c2:=hc.up _ (Qi (bP hi));rw[zGg hi];have d0:=gE q;have p:=Xs (show 0<max 1 cs.sum by omega) d0
 exact Sz.of (by omega) (Qp (gF (m:=100) (n:=m) (by omega) hq.1) (Vc (by decide) (by omega))) (Qp (gF (m:=110) (n:=m) (by omega) hq.d) (Vc (by decide) (by omega)))
inductive Wy where
 | row | back | even | lack | part | half
def Wy.s:Wy->Str
 | .row=>Str.ofString "row"
 | .back=>Str.ofString "back"
 | .even=>Str.ofString "even"
 | .lack=>Str.ofString "lack"
 | .part=>Str.ofString "part"
 | .half=>Str.ofString "half"
def Wy.due(w:Wy)(ws cs:List Int):Prop:=match w with
 | .even=>Wt ws cs
 | .lack=>Wt ws cs
 | _=>ws=[]
def Al(M:Nat)(ws cs:List Int)(q:Rat)(f:Nat->Rat):Wy->Prop
 | .row=>∀ i,i<cs.length->f i=zFw cs q i
 | .back=>∀ i,i<cs.length->f i=cR cs i-zFw cs ((cs.sum:Rat)-q) i
 | .even=>∃ t,Lvl M ws cs q t/\∀ i,i<cs.length->f i=dY (cR cs) (cR ws) t i
 | .lack=>∃ t,Lvl M ws cs ((cs.sum:Rat)-q) t/\∀ i,i<cs.length->f i=cR cs i-dY (cR cs) (cR ws) t i
 | .part=>∀ i,i<cs.length->f i=kR cs q i
 | .half=>∃ t,(q+q<=(cs.sum:Rat)/\Lvl M (ones cs) cs (q+q) t/\∀ i,i<cs.length->f i=dY (cR cs) (cR (ones cs)) t i*hf)∨((cs.sum:Rat)<q+q/\Lvl M (ones cs) cs (((cs.sum:Rat)-q)+((cs.sum:Rat)-q)) t/\∀ i,i<cs.length->f i=cR cs i-dY (cR cs) (cR (ones cs)) t i*hf)
theorem zCq{w:Wy}{ws cs:List Int}{wd cd:D}(sw:Sq wd ws)(sc:Sq cd cs){q:Rat}{m:Nat}(hm:m<=2880)(hw:w.due ws cs)(hc:Cl cs)(hq:Haul m q cs.sum):∃ f,aR 2 [.str w.s,wd,cd,dq q]=.ok (.f (((List.range cs.length).map f).map dq))/\Al (m+263) ws cs q f w:=by
 have z:=hq.sz
 cases w with
 | row=>exact⟨zFw cs q,by rw[<-(zDJ hc z hq.nn hq.up).1];exact zQe sc (by omega) hc z hq.nn,fun i _=>rfl⟩
 | back=>exact⟨_,zPJ sc (by omega) hc hq,fun i _=>rfl⟩
 | even=>
  obtain⟨t,tl,e⟩:=zMf sw sc (n:=1) (by omega) hw hc z hq.nn hq.up
  exact⟨_,e,t,tl.mono (by omega),fun i _=>rfl⟩
 | lack=>
  obtain⟨t,tl,e⟩:=zPV sw sc (n:=0) (by omega) hw hc hq
  rw[zPK] at e;exact⟨_,e,t,tl.mono (by omega),fun i _=>rfl⟩
 | part=>
  refine⟨kR cs q,?_,fun i _=>rfl⟩
  have e:zAT cs q=(List.range cs.length).map (kR cs q):=zJw (by unfold zAT;rw[Qe])
  rw[<-e];exact zPN sc (by omega) hc z
 | half=>
  by_cases h:(cs.sum:Rat)<q+q
  ·obtain⟨t,tl,e⟩:=zOa sc (n:=0) (e:=wd) (by omega) hc hq h
   exact⟨_,e,t,.inr ⟨h,tl,fun i _=>rfl⟩⟩
  ·obtain⟨t,tl,e⟩:=zHL sc (n:=1) (e:=wd) (by omega) hc z hq.nn (Q7.mp h)
   exact⟨_,e,t,.inl ⟨Q7.mp h,tl.mono (by omega),fun i _=>rfl⟩⟩
theorem zNk(w:Wy):∃ v,aW.lookup w.s=some v:=by
 cases w
 ·exact⟨_,zIL⟩
 ·exact⟨_,zAz⟩
 ·exact⟨_,zFB⟩
 ·exact⟨_,zR⟩
 ·exact⟨_,zFv⟩
 ·exact⟨_,zAd⟩
theorem zFD{w:Wy}{ws cs:List Int}{wd cd:D}(sw:Sq wd ws)(sc:Sq cd cs)(hw:w.due ws cs)(hc:Cl cs):lN [.str w.s,wd,cd]=.ok (.v .non):=by
 have rw':bT [.str w.s,wd,.int cs.length]=.ok (.v .non):=by
  cases w with
  | even=>exact pX sw hw rfl
  | lack=>exact pX sw hw rfl
  | row=>have e:ws=[]:=hw;rw[e] at sw;exact kH sw rfl
  | back=>have e:ws=[]:=hw;rw[e] at sw;exact kH sw rfl
  | part=>have e:ws=[]:=hw;rw[e] at sw;exact kH sw rfl
  | half=>have e:ws=[]:=hw;rw[e] at sw;exact kH sw rfl
 obtain⟨v,hv⟩:=zNk w;unfold lN;symm;rw[wT hv];symm;rw[wM sc hc];symm;rw[sc.len];symm;rw[rw'];symm
theorem zOh{w:Wy}{ws cs:List Int}{wd cd:D}(sw:Sq wd ws)(sc:Sq cd cs){q:Rat}{m:Nat}(hm:m<=2880)(hw:w.due ws cs)(hc:Cl cs)(hq:Haul m q cs.sum):∃ f,rN [.str w.s,wd,cd,dq q]=.ok (.f (((List.range cs.length).map f).map dq))/\Al (m+263) ws cs q f w:=by
 obtain⟨f,rd,al⟩:=zCq sw sc hm hw hc hq;have sm:=hc.sum;refine⟨f,?_,al⟩
 unfold rN;symm;rw[zFD sw sc hw hc];symm;rw[sc.sum];symm;rw[bU];symm;rw[mC (by omega) hq (by omega)];symm;rw[rd];symm
structure Dl (M:Nat) (cs:List Int) (q:Rat) (f:Nat->Rat):Prop where
 bd:∀ i,i<cs.length->0<=f i/\f i<=cR cs i/\Sz M (f i)
 sum:((List.range cs.length).map f).sum=q
theorem zCA{f g:Nat->Rat}{n:Nat}(h:∀ i,i<n->f i=g i):((List.range n).map f).sum=((List.range n).map g).sum:=by rw[Q6 fun i hi=>h i (Qj.mp hi)]
theorem Dl.congr{M:Nat}{cs:List Int}{q:Rat}{f g:Nat->Rat}(d:Dl M cs q g)(h:∀ i,i<cs.length->f i=g i):Dl M cs q f:=⟨fun i hi=>by rw[h i hi];exact d.bd i hi,by rw[zCA h];exact d.sum⟩
theorem Dl.mono{M M':Nat}{cs:List Int}{q:Rat}{f:Nat->Rat}(d:Dl M cs q f)(h:M<=M'):Dl M' cs q f:=⟨fun i hi=>⟨(d.bd i hi).1,(d.bd i hi).2.1,(d.bd i hi).2.2.mono h⟩,d.sum⟩
theorem zIO{cs:List Int}(hc:Cl cs){i:Nat}(hi:i<cs.length):0<=cR cs i/\Sz 100 (cR cs i):=by
 have c1:=hc.nn _ (Qi (bP hi));have c2:=hc.up _ (Qi (bP hi));exact⟨by unfold cR;exact_mod_cast c1,cZ (by omega) (by decide)⟩
theorem Dl.dual{M:Nat}{cs:List Int}{q q':Rat}{g:Nat->Rat}(hc:Cl cs)(d:Dl M cs q' g)(h:q'=(cs.sum:Rat)-q):Dl (100+M+1) cs q (fun i=>cR cs i-g i):=by
 refine⟨fun i hi=>?_,?_⟩
 ·obtain⟨b1,b2,b3⟩:=d.bd i hi
  exact⟨by grind,by grind,(zIO hc hi).2.sub b3⟩
 ·rw[zLI,tK,d.sum]
  grind
theorem zLP{m:Nat}{cs:List Int}{q:Rat}(hc:Cl cs)(hq:Sz m q)(h0:0<=q)(h1:q<=(cs.sum:Rat)):Dl (m+111) cs q (zFw cs q):=by
 obtain⟨e,s,z⟩:=zDJ hc hq h0 h1;refine⟨fun i hi=>?_,by rw[<-e];exact s⟩
 obtain⟨b1,b2⟩:=zIk cs 0 q i hc.nn hi;exact⟨b1,b2,z _ (by rw[e];exact Qo.mpr ⟨i,Qj.mpr hi,rfl⟩)⟩
theorem zMh{M:Nat}{ws cs:List Int}{q t:Rat}(hW:Wt ws cs)(hc:Cl cs)(tl:Lvl M ws cs q t):Dl M cs q (dY (cR cs) (cR ws) t):=
 ⟨fun i hi=>⟨(pI hW hc tl.nn hi).1,(pI hW hc tl.nn hi).2,tl.sz i hi⟩,tl.sum⟩
theorem zKa{M:Nat}{cs:List Int}{q t:Rat}(hc:Cl cs)(tl:Lvl M (ones cs) cs (q+q) t):Dl (M+2) cs q (fun i=>dY (cR cs) (cR (ones cs)) t i*hf):=by
 refine⟨fun i h=>?_,?_⟩
 ·obtain⟨b1,b2⟩:=pI (fE cs) hc tl.nn h
  exact⟨by rw[jO];grind,by rw[jO];grind,(tl.sz i h).mul zIS⟩
 ·have e:=tl.sum
  have e2:=dX (w:=dY (cR cs) (cR (ones cs)) t) (t:=hf) (l:=List.range cs.length);unfold evs at e;unfold iY at e2;rw[e2,e,jO];grind
theorem zOD{a b s:Rat}(hs:s≠0)(h:a*s=b*s):a=b:=by
 have e1:a*s / s=a:=by grind
 have e2:b*s / s=b:=by grind
 rw[<-e1,<-e2,h]
theorem sZ{a b s:Rat}(hs:0<s)(h:a*s<=b*s):a<=b:=VR h hs
theorem zNG{m:Nat}{cs:List Int}{q:Rat}(hc:Cl cs)(hq:Sz m q)(h0:0<=q)(h1:q<=(cs.sum:Rat)):Dl (m+370) cs q (kR cs q):=by
 have sm:=hc.sum;have cn:∀ i,i<cs.length->0<=cR cs i:=fun i hi=>(zIO hc hi).1
 have sc:iY (fun i=>kR cs q i*(cs.sum:Rat)) (List.range cs.length)=q*(cs.sum:Rat):=by
  rw[eN (g:=fun i=>cR cs i*q) fun i hi=>by rw[(jM hc (Qj.mp hi)).1];grind];rw[dX,show iY (cR cs) (List.range cs.length)=(cs.sum:Rat) from tK cs]
 rw[dX] at sc;by_cases z:cs.sum=0
 ·have p0:∀ i,i<cs.length->kR cs q i=cR cs i:=fun i hi=>by
   have c0:=rE hc.nn z _ (Qi (bP hi));rw[(jM hc hi).2 z];unfold cR;rw[c0];rfl
  refine⟨fun i hi=>⟨by rw[p0 i hi];exact cn i hi,by rw[p0 i hi];exact Qh,zHC hc hq hi⟩,?_⟩
  rw[zCA p0,tK];have:(cs.sum:Rat)=0:=by rw[z];rfl
  grind
 ·have W:(0:Rat)<(cs.sum:Rat):=by exact_mod_cast (show 0<cs.sum by omega)
  refine⟨fun i hi=>?_,?_⟩
  ·have e:=(jM (q:=q) hc hi).1
   have c0:=cn i hi;refine⟨sZ W (by rw[e];have:=Xi h0 c0;grind),sZ W ?_,zHC hc hq hi⟩
   rw[e];have:=Q3 h1 c0
   grind
  ·exact zOD (s:=(cs.sum:Rat)) (by grind) (by rw[Rat.mul_comm];exact sc)
theorem zOq{m:Nat}{w:Wy}{ws cs:List Int}{q:Rat}{f:Nat->Rat}(hw:w.due ws cs)(hc:Cl cs)(hq:Haul m q cs.sum)(al:Al (m+263) ws cs q f w):Dl (m+370) cs q f:=by
 have sm:=hc.sum;have zW:Sz 105 (cs.sum:Rat):=cZ (by omega) (by decide)
 have z:=hq.sz;have z':Sz (m+106) ((cs.sum:Rat)-q):=(zW.sub hq.sz).mono (by omega)
 have n:=hq.nn;have u:=hq.up
 cases w with
 | row=>exact((zLP hc z n u).mono (by omega)).congr al
 | back=>exact((Dl.dual hc (zLP hc z' (by grind) (by grind)) rfl).mono (by omega)).congr al
 | even=>
  obtain⟨t,tl,e⟩:=al;exact((zMh hw hc tl).mono (by omega)).congr e
 | lack=>
  obtain⟨t,tl,e⟩:=al;exact((Dl.dual hc (zMh hw hc tl) rfl).mono (by omega)).congr e
 | part=>exact(zNG hc z n u).congr al
 | half=>
  obtain⟨t,⟨c,tl,e⟩ | ⟨c,tl,e⟩⟩:=al
  ·exact((zKa hc tl).mono (by omega)).congr e
  ·exact((Dl.dual hc (zKa hc tl) rfl).mono (by omega)).congr e
theorem zAN:∀(cs:List Int)(a:Int)(q:Rat)(i:Nat),i<cs.length->(jL cs a q).getD i 0=mn (ps0 (q-((a+(cs.take i).sum:Int):Rat))) (cR cs i)
 | c::r,a,q,0,_=>by simp[jL,cR]
 | c::r,a,q,i+1,h=>by
  have ih:=zAN r (a+c) q i (by simpa using h)
  rw[Xt,QF,<-Yc];show(jL r (a+c) q).getD i 0=_
  rw[ih];rfl
def Dn(B:Int)(x:Rat):Prop:=∃ k:Int,x*(B:Rat)=(k:Rat)
theorem Dn.add{B:Int}{x y:Rat}(hx:Dn B x)(hy:Dn B y):Dn B (x+y):=by
 obtain⟨a,ha⟩:=hx;obtain⟨b,hb⟩:=hy;exact⟨a+b,by rw[QU,<-ha,<-hb];grind⟩
theorem Dn.sub{B:Int}{x y:Rat}(hx:Dn B x)(hy:Dn B y):Dn B (x-y):=by
 obtain⟨a,ha⟩:=hx;obtain⟨b,hb⟩:=hy;exact⟨a-b,by rw[Rat.intCast_sub,<-ha,<-hb];grind⟩
theorem Dn.int(B c:Int):Dn B (c:Rat):=⟨c*B,by rw[QO]⟩
theorem Dn.zero(B:Int):Dn B 0:=Dn.int B 0
theorem Dn.mn{B:Int}{x y:Rat}(hx:Dn B x)(hy:Dn B y):Dn B (Lw.mn x y):=by
 unfold Lw.mn;split
 ·exact hx
 ·exact hy
theorem Dn.ps{B:Int}{x:Rat}(hx:Dn B x):Dn B (ps0 x):=by
 unfold ps0;split
 ·exact Dn.zero B
 ·exact hx
theorem Dn.den(x:Rat):Dn (x.den:Int) x:=⟨x.num,(zLG x).symm⟩
theorem Dn.le{B:Int}{x:Rat}(h:Dn B x)(hB:0<B):(x.den:Int)<=B:=by
 obtain⟨a,ha⟩:=h
 have nB:(B:Rat)≠0:=fun z=>by
  have:B=0:=by exact_mod_cast z
  omega
 have e:x=Rat.divInt a B:=by
  rw[VC,<-ha];grind
 rw[e];exact zFh hB
theorem Dn.sz{B c:Int}{x:Rat}{a b:Nat}(h:Dn B x)(hB:0<B)(hb:B<2^b)(h0:0<=x)(h1:x<=(c:Rat))(hc:c<2^a):Sz (a+b) x:=by
 have le:=h.le hB;have d0:=gE x;have n0:0<=x.num:=Rat.num_nonneg.mpr h0
 have c0:0<=c:=by
  have:((0:Int):Rat)<=(c:Rat):=QB (by rw[show((0:Int):Rat)=0 from rfl];exact h0) h1
  exact Vu.mp this
 have n1:x.num<=c*x.den:=by
  have:((x.num:Int):Rat)<=((c*x.den:Int):Rat):=by
   rw[QO,zLG];exact Q3 h1 (by have z:(0:Int)<=x.den:=(by omega);exact_mod_cast z)
  exact Vu.mp this
 have hb':(x.den:Int).natAbs<2^b:=by
  have:((2:Nat)^b:Nat)=((2:Int)^b):=by rw[Int.natCast_pow];rfl
  omega
 have ha':c.natAbs<2^a:=by
  have:((2:Nat)^a:Nat)=((2:Int)^a):=by rw[Int.natCast_pow];rfl
  omega
 have m:=gF ha' hb';refine⟨by omega,?_⟩
 have:2^b<=2^(a+b):=Vc (by decide) (by omega)
 omega
theorem wU{c w:Nat->Rat}{ci wi:Nat->Int}{t:Rat}(hc:∀ i,c i=(ci i:Rat))(hw:∀ i,w i=(wi i:Rat)):∀ l:List Nat,(∀ i∈l,1<=wi i/\wi i<=10^6)->∃ F W:Int,iY (dY c w t) l=(W:Rat)*t+(F:Rat)/\0<=W/\W<=l.length*10^6/\(W=0->∀ i∈l,dY c w t i=c i)
 | [],_=>⟨0,0,by rw[iV,show((0:Int):Rat)=0 from rfl];grind,by decide,by decide,fun _ i h=>by cases h⟩
 | i::l,h=>by
  obtain⟨F,W,e,w0,w1,f⟩:=wU (t:=t) hc hw l fun j hj=>h j (Qc _ hj)
  have hi:=h i Qb;have ek:((l.length+1:Nat):Int)*10^6=(l.length:Int)*10^6+10^6:=by rw[V8,V9];rfl
  rw[bG,Qn];by_cases z:w i*t<c i
  ·have g:dY c w t i=w i*t:=if_pos z
   refine⟨F,W+wi i,?_,by omega,by omega,fun z=>by omega⟩
   rw[g,e,QU,hw];grind
  ·have g:dY c w t i=c i:=if_neg z
   refine⟨F+ci i,W,?_,w0,by omega,fun z j hj=>?_⟩
   ·rw[g,e,QU,hc]
    grind
   ·rcases Qd.mp hj with rfl | hj
    ·exact g
    ·exact f z j hj
theorem zEZ{M:Nat}{ws cs:List Int}{q t:Rat}{B:Int}(hW:Wt ws cs)(hl:cs.length<=12)(tl:Lvl M ws cs q t)(hq:Dn B q):∃ E:Int,0<E/\E<=12*10^6/\∀ i,i<cs.length->Dn (B*E) (dY (cR cs) (cR ws) t i):=by
 obtain⟨F,W,e,w0,w1,f⟩:=wU (c:=cR cs) (w:=cR ws) (ci:=fun i=>cs.getD i 0) (wi:=fun i=>ws.getD i 0) (t:=t) (fun _=>rfl) (fun _=>rfl) (List.range cs.length) fun i hi=>hW.at (Qj.mp hi)
 have s:iY (dY (cR cs) (cR ws) t) (List.range cs.length)=q:=tl.sum;rw[Qy] at w1;by_cases z:W=0
 ·refine⟨1,by decide,by decide,fun i hi=>?_⟩
  rw[f z i (Qj.mpr hi)];exact Dn.int _ _
 ·refine⟨W,by omega,by omega,fun i hi=>?_⟩
  unfold dY;refine Dn.mn ?_ (Dn.int _ _)
  obtain⟨k,hk⟩:=hq.sub (Dn.int B F);refine⟨ws.getD i 0*k,?_⟩
  rw[QO,QO,<-hk,<-s,e];show cR ws i*t*_=cR ws i*_
  grind
theorem zIw{B:Int}{x:Rat}(h:Dn B x):Dn (B*2) (x*hf):=by
 obtain⟨k,hk⟩:=h;refine⟨k,?_⟩
 rw[<-hk,QO,jO,show((2:Int):Rat)=2 from rfl];grind
theorem zMs{cs:List Int}{q:Rat}{B:Int}(h:Dn B q){i:Nat}(hi:i<cs.length):Dn B (zFw cs q i):=by
 unfold zFw;rw[zAN cs 0 q i hi];exact Dn.mn (Dn.ps (h.sub (Dn.int _ _))) (Dn.int _ _)
theorem zPd{M:Nat}{w:Wy}{ws cs:List Int}{q:Rat}{f:Nat->Rat}{B:Int}(hw:w.due ws cs)(hc:Cl cs)(hS:cs.sum<2^34)(al:Al M ws cs q f w)(hq:Dn B q):∃ E:Int,0<E/\E<2^34/\∀ i,i<cs.length->Dn (B*E) (f i):=by
 have hi:=hc.hi;have sm:=hc.sum;have hq':Dn B ((cs.sum:Rat)-q):=(Dn.int B cs.sum).sub hq
 cases w with
 | row=>exact⟨1,by decide,by decide,fun i hi=>by rw[al i hi,QW];exact zMs hq hi⟩
 | back=>exact⟨1,by decide,by decide,fun i hi=>by rw[al i hi,QW];exact(Dn.int _ _).sub (zMs hq' hi)⟩
 | even=>
  obtain⟨t,tl,e⟩:=al;obtain⟨E,e0,e1,e2⟩:=zEZ hw hi tl hq;exact⟨E,e0,by omega,fun i hi=>by rw[e i hi];exact e2 i hi⟩
 | lack=>
  obtain⟨t,tl,e⟩:=al;obtain⟨E,e0,e1,e2⟩:=zEZ hw hi tl hq';exact⟨E,e0,by omega,fun i hi=>by rw[e i hi];exact(Dn.int _ _).sub (e2 i hi)⟩
 | part=>
  by_cases z:cs.sum=0
  ·exact⟨1,by decide,by decide,fun i hi=>by rw[al i hi,(jM hc hi).2 z];exact Dn.zero _⟩
  ·refine⟨cs.sum,by omega,hS,fun i hi=>?_⟩
   have p:=(jM (q:=q) hc hi).1;rw[<-al i hi] at p;obtain⟨k,hk⟩:=hq;refine⟨k*cs.getD i 0,?_⟩
   rw[QO,QO,<-hk];show f i*((B:Rat)*(cs.sum:Rat))=q*(B:Rat)*cR cs i
   generalize (cs.sum:Rat)=S at *;generalize cR cs i=x at *;generalize f i=y at *;grind
 | half=>
  obtain⟨t,⟨c,tl,e⟩ | ⟨c,tl,e⟩⟩:=al
  ·obtain⟨E,e0,e1,e2⟩:=zEZ (fE cs) hi tl (hq.add hq)
   exact⟨E*2,by omega,by omega,fun i hi=>by rw[e i hi,<-X8];exact zIw (e2 i hi)⟩
  ·obtain⟨E,e0,e1,e2⟩:=zEZ (fE cs) hi tl (hq'.add hq')
   exact⟨E*2,by omega,by omega,fun i hi=>by rw[e i hi,<-X8];exact(Dn.int _ _).sub (zIw (e2 i hi))⟩
theorem Al.mono{M M':Nat}{w:Wy}{ws cs:List Int}{q:Rat}{f:Nat->Rat}(h:Al M ws cs q f w)(l:M<=M'):Al M' ws cs q f w:=by
 cases w with
 | row=>exact h
 | back=>exact h
 | part=>exact h
 | even=>obtain⟨t,tl,e⟩:=h;exact⟨t,tl.mono l,e⟩
 | lack=>obtain⟨t,tl,e⟩:=h;exact⟨t,tl.mono l,e⟩
 | half=>
  obtain⟨t,⟨c,tl,e⟩ | ⟨c,tl,e⟩⟩:=h
  ·exact⟨t,.inl ⟨c,tl.mono l,e⟩⟩
  ·exact⟨t,.inr ⟨c,tl.mono l,e⟩⟩
theorem zQy(q:Rat):Sz (q.num.natAbs+q.den) q:=⟨Qp YC (Vc (by decide) (by omega)),Qp YC (Vc (by decide) (by omega))⟩
theorem zQi{M:Nat}{w:Wy}{ws cs:List Int}{q:Rat}{f:Nat->Rat}(hw:w.due ws cs)(hc:Cl cs)(q0:0<=q)(q1:q<=(cs.sum:Rat))(al:Al M ws cs q f w):(∀ i,i<cs.length->0<=f i/\f i<=cR cs i)/\((List.range cs.length).map f).sum=q:=by
 have d:=zOq (m:=q.num.natAbs+q.den+M) hw hc ⟨q0,q1,(zQy q).mono (by omega)⟩ (al.mono (by omega))
 exact⟨fun i hi=>⟨(d.bd i hi).1,(d.bd i hi).2.1⟩,d.sum⟩
theorem mP{M M':Nat}{ws cs:List Int}{q q' t t':Rat}(hW:Wt ws cs)(a:Lvl M ws cs q t)(b:Lvl M' ws cs q' t')(h:q=q'){i:Nat}(hi:i<cs.length):dY (cR cs) (cR ws) t i=dY (cR cs) (cR ws) t' i:=by
 have pw:∀ j∈List.range cs.length,0<cR ws j:=fun j hj=>by
  have:=(hW.at (Qj.mp hj)).1
  unfold cR;exact_mod_cast (show 0<ws.getD j 0 by omega)
 exact zBg (c:=cR cs) (w:=cR ws) pw (by show(evs ws cs t).sum=(evs ws cs t').sum;rw[a.sum,b.sum,h]) i (Qj.mpr hi)
theorem zQW{M M':Nat}{w:Wy}{ws cs:List Int}{q:Rat}{f g:Nat->Rat}(hw:w.due ws cs)(a:Al M ws cs q f w)(b:Al M' ws cs q g w){i:Nat}(hi:i<cs.length):f i=g i:=by
 cases w with
 | row=>rw[a i hi,b i hi]
 | back=>rw[a i hi,b i hi]
 | part=>rw[a i hi,b i hi]
 | even=>
  obtain⟨t,tl,e⟩:=a;obtain⟨t',tl',e'⟩:=b;rw[e i hi,e' i hi,mP hw tl tl' rfl hi]
 | lack=>
  obtain⟨t,tl,e⟩:=a;obtain⟨t',tl',e'⟩:=b;rw[e i hi,e' i hi,mP hw tl tl' rfl hi]
 | half=>
  have W:=fE cs;obtain⟨t,⟨c,tl,e⟩ | ⟨c,tl,e⟩⟩:=a
  ·obtain⟨t',⟨c',tl',e'⟩ | ⟨c',tl',e'⟩⟩:=b
   ·rw[e i hi,e' i hi,mP W tl tl' rfl hi]
   ·exact absurd c' (Q7.mpr c)
  ·obtain⟨t',⟨c',tl',e'⟩ | ⟨c',tl',e'⟩⟩:=b
   ·exact absurd c (Q7.mpr c')
   ·rw[e i hi,e' i hi,mP W tl tl' rfl hi]
theorem tY{M M':Nat}{ws cs:List Int}{q q' t t':Rat}(hW:Wt ws cs)(a:Lvl M ws cs q t)(b:Lvl M' ws cs q' t')(h:q<=q'){i:Nat}(hi:i<cs.length):dY (cR cs) (cR ws) t i<=dY (cR cs) (cR ws) t' i:=by
 have pw:∀ j∈List.range cs.length,0<cR ws j:=fun j hj=>by
  have:=(hW.at (Qj.mp hj)).1
  unfold cR;exact_mod_cast (show 0<ws.getD j 0 by omega)
 rcases Vm (a:=t) (b:=t') with g | g
 ·exact nH (pw i (Qj.mpr hi)) g
 ·have le:∀ j∈List.range cs.length,dY (cR cs) (cR ws) t' j<=dY (cR cs) (cR ws) t j:=fun j hj=>nH (pw j hj) g
  have s1:iY (dY (cR cs) (cR ws) t') (List.range cs.length)=q':=b.sum;have s2:iY (dY (cR cs) (cR ws) t) (List.range cs.length)=q:=a.sum;have s3:=sG le;rw[sQ le (by rw[s1,s2];rw[s1,s2] at s3;grind) i (Qj.mpr hi)];exact Qh
theorem zOr{M M':Nat}{w:Wy}{ws cs:List Int}{q q':Rat}{f g:Nat->Rat}(hw:w.due ws cs)(hc:Cl cs)(a:Al M ws cs q f w)(b:Al M' ws cs q' g w)(h:q<=q'){i:Nat}(hi:i<cs.length):f i<=g i:=by
 have sm:=hc.sum
 cases w with
 | row=>rw[a i hi,b i hi];exact vH cs 0 i h
 | back=>
  rw[a i hi,b i hi];have:=vH cs 0 (q:=(cs.sum:Rat)-q') (q':=(cs.sum:Rat)-q) i (by grind)
  unfold zFw;grind
 | even=>
  obtain⟨t,tl,e⟩:=a;obtain⟨t',tl',e'⟩:=b;rw[e i hi,e' i hi];exact tY hw tl tl' h hi
 | lack=>
  obtain⟨t,tl,e⟩:=a;obtain⟨t',tl',e'⟩:=b;rw[e i hi,e' i hi];have:=tY hw tl' tl (by grind) hi
  grind
 | part=>
  rw[a i hi,b i hi];have c0:0<=cR cs i:=by unfold cR;exact_mod_cast hc.nn _ (Qi (bP hi))
  obtain⟨p1,p2⟩:=jM (q:=q) hc hi;obtain⟨r1,r2⟩:=jM (q:=q') hc hi;by_cases z:cs.sum=0
  ·rw[p2 z,r2 z];exact Qh
  ·have W:(0:Rat)<(cs.sum:Rat):=by exact_mod_cast (show 0<cs.sum by omega)
   exact sZ W (by rw[p1,r1];exact Q3 h c0)
 | half=>
  have ow:=fE cs;obtain⟨t,⟨c,tl,e⟩ | ⟨c,tl,e⟩⟩:=a
  ·have b1:=(pI ow hc tl.nn hi).2
   obtain⟨t',⟨c',tl',e'⟩ | ⟨c',tl',e'⟩⟩:=b
   ·have:=tY ow tl tl' (by grind) hi
    rw[e i hi,e' i hi,jO];grind
   ·have b2:=(pI ow hc tl'.nn hi).2
    rw[e i hi,e' i hi,jO];grind
  ·obtain⟨t',⟨c',tl',e'⟩ | ⟨c',tl',e'⟩⟩:=b
   ·exfalso;grind
   ·have:=tY ow tl' tl (by grind) hi
    rw[e i hi,e' i hi,jO];grind
def Wy.con:Wy->Wy
 | .row=>.back
 | .back=>.row
 | .even=>.lack
 | .lack=>.even
 | .part=>.part
 | .half=>.half
theorem zFn{M:Nat}{ws cs:List Int}{q t:Rat}(hW:Wt ws cs)(hc:Cl cs)(a:Lvl M ws cs q t)(h:q=(cs.sum:Rat)){i:Nat}(hi:i<cs.length):dY (cR cs) (cR ws) t i=cR cs i:=by
 have s:iY (dY (cR cs) (cR ws) t) (List.range cs.length)=q:=a.sum;exact sQ (fun j hj=>(pI hW hc a.nn (Qj.mp hj)).2) (by rw[s,h];exact(tK cs).symm) i (Qj.mpr hi)
theorem zQu{M M':Nat}{w:Wy}{ws cs:List Int}{q:Rat}{f g:Nat->Rat}(hw:w.due ws cs)(hc:Cl cs)(hn:0<=q)(hu:q<=(cs.sum:Rat))(a:Al M ws cs q f w)(b:Al M' ws cs ((cs.sum:Rat)-q) g w.con){i:Nat}(hi:i<cs.length):g i=cR cs i-f i:=by
 have sm:=hc.sum;have e0:(cs.sum:Rat)-((cs.sum:Rat)-q)=q:=by grind
 cases w with
 | row=>
  have b':g i=cR cs i-zFw cs ((cs.sum:Rat)-((cs.sum:Rat)-q)) i:=b i hi;rw[b',e0,a i hi]
 | back=>
  have b':g i=zFw cs ((cs.sum:Rat)-q) i:=b i hi;rw[b',a i hi];grind
 | even=>
  obtain⟨t,tl,e⟩:=a;obtain⟨t',tl',e'⟩:=b;rw[e i hi,e' i hi,mP hw tl' tl e0 hi]
 | lack=>
  obtain⟨t,tl,e⟩:=a;obtain⟨t',tl',e'⟩:=b;rw[e i hi,e' i hi,mP hw tl' tl rfl hi];grind
 | part=>
  have b':g i=kR cs ((cs.sum:Rat)-q) i:=b i hi;have u:=hu;have n:=hn;obtain⟨p1,p2⟩:=jM (q:=q) hc hi;obtain⟨r1,r2⟩:=jM (q:=(cs.sum:Rat)-q) hc hi;rw[b',a i hi];by_cases z:cs.sum=0
  ·have c0:=rE hc.nn z _ (Qi (bP hi))
   rw[p2 z,r2 z];unfold cR;rw[c0,show((0:Int):Rat)=0 from rfl];grind
  ·have W:(0:Rat)<(cs.sum:Rat):=by exact_mod_cast (show 0<cs.sum by omega)
   have e:kR cs ((cs.sum:Rat)-q) i*(cs.sum:Rat)=(cR cs i-kR cs q i)*(cs.sum:Rat):=by rw[r1];grind
   have l1:=sZ W (show kR cs ((cs.sum:Rat)-q) i*(cs.sum:Rat)<=(cR cs i-kR cs q i)*(cs.sum:Rat) by rw[e];exact Qh)
   have l2:=sZ W (show(cR cs i-kR cs q i)*(cs.sum:Rat)<=kR cs ((cs.sum:Rat)-q) i*(cs.sum:Rat) by rw[e];exact Qh)
   grind
 | half=>
  have ow:=fE cs;obtain⟨t,⟨c,tl,e⟩ | ⟨c,tl,e⟩⟩:=a
  ·obtain⟨t',⟨c',tl',e'⟩ | ⟨c',tl',e'⟩⟩:=b
   ·have f1:=zFn ow hc tl (by grind) hi
    have f2:=zFn ow hc tl' (by grind) hi
    rw[e i hi,e' i hi,f1,f2,jO];grind
   ·have f1:=mP ow tl' tl (by grind) hi
    rw[e i hi,e' i hi,f1]
  ·obtain⟨t',⟨c',tl',e'⟩ | ⟨c',tl',e'⟩⟩:=b
   ·have f1:=mP ow tl' tl rfl hi
    rw[e i hi,e' i hi,f1];grind
   ·exfalso;grind
theorem zMR{w:Wy}{ws cs:List Int}(h:w.due ws cs):w.con.due ws cs:=by cases w<;>exact h
def Lin(f:Rat->Rat)(a b:Rat):Prop:=∀ x,a<=x->x<=b->(f x-f a)*(b-a)=(x-a)*(f b-f a)
def Cn(R:Rat->Rat->Prop):List Rat->Prop
 | a::b::l=>R a b/\Cn R (b::l)
 | _=>True
theorem Cn.imp{R R':Rat->Rat->Prop}(h:∀ a b,R a b->R' a b):∀ {l:List Rat},Cn R l->Cn R' l
 | [],_=>trivial
 | [_],_=>trivial
 | a::b::l,k=>⟨h a b k.1,Cn.imp h k.2⟩
theorem wR{A:List Rat}:∀ {l:List Rat},l.Pairwise (·<=·)->(∀ x∈A,x∈l∨∀ y∈l,x<=y)->Cn (fun s t=>s<=t/\∀ x∈A,x<=s∨t<=x) l
 | [],_,_=>trivial
 | [_],_,_=>trivial
 | a::b::r,h,hA=>by
  obtain⟨h1,h2⟩:=Qq.mp h;obtain⟨h3,h4⟩:=Qq.mp h2;refine⟨⟨h1 b Qb,fun x hx=>?_⟩,wR h2 fun x hx=>?_⟩
  ·rcases hA x hx with h | h
   ·rcases Qd.mp h with rfl | h
    ·exact .inl Qh
    ·rcases Qd.mp h with rfl | h
     ·exact .inr Qh
     ·exact .inr (h3 x h)
   ·exact .inl (h a Qb)
  ·rcases hA x hx with h | h
   ·rcases Qd.mp h with rfl | h
    ·exact .inr h1
    ·exact .inl h
   ·exact .inr fun y hy=>h y (Qc _ hy)
def QQ(ws cs:List Int)(t:Rat):Rat:=iY (dY (cR cs) (cR ws) t) (List.range cs.length)
def lv(ws cs:List Int)(i:Nat):Rat:=cR cs i / cR ws i
theorem Wt.pos{ws cs:List Int}(h:Wt ws cs){i:Nat}(hi:i<cs.length):0<cR ws i:=by
 have:=(h.at hi).1
 unfold cR;exact_mod_cast (show 0<ws.getD i 0 by omega)
theorem yX{ws cs:List Int}(h:Wt ws cs){i:Nat}(hi:i<cs.length):cR ws i*lv ws cs i=cR cs i:=by
 have:=h.pos hi
 unfold lv;grind
theorem zGJ{ws cs:List Int}(h:Wt ws cs){i:Nat}(hi:i<cs.length){t:Rat}(l:lv ws cs i<=t):dY (cR cs) (cR ws) t i=cR cs i:=by
 have p:=h.pos hi;have e:=yX h hi;have:=Vs l (Qf p)
 unfold dY mn;grind
theorem zGp{ws cs:List Int}(h:Wt ws cs){i:Nat}(hi:i<cs.length){t:Rat}(l:t<=lv ws cs i):dY (cR cs) (cR ws) t i=cR ws i*t:=by
 have p:=h.pos hi;have e:=yX h hi;have:=Vs l (Qf p)
 unfold dY mn;grind
theorem zHi{ws cs:List Int}(h:Wt ws cs)(hc:Cl cs){i:Nat}(hi:i<cs.length):0<=lv ws cs i:=by
 have p:=h.pos hi;have c:=(zIO hc hi).1;have e:=yX h hi;rcases Vm (a:=0) (b:=lv ws cs i) with z | z
 ·exact z
 ·have:=Vs z (Qf p)
  have z2:cR cs i=0:=by grind
  unfold lv;rw[z2];grind
def sl(ws cs:List Int)(s:Rat)(i:Nat):Rat:=if lv ws cs i<=s then 0 else cR ws i
theorem zFR{f g:Nat->Rat}:∀ {l:List Nat},iY (fun i=>f i-g i) l=iY f l-iY g l
 | []=>by rw[iV,iV,iV];grind
 | a::l=>by rw[bG,bG,bG,zFR];grind
def zOM(ws cs:List Int)(s t:Rat):Prop:=∀ i,i<cs.length->lv ws cs i<=s∨t<=lv ws cs i
theorem zAV{ws cs:List Int}(h:Wt ws cs){s t u:Rat}(n:zOM ws cs s t)(su:s<=u)(ut:u<=t){i:Nat}(hi:i<cs.length):dY (cR cs) (cR ws) u i-dY (cR cs) (cR ws) s i=sl ws cs s i*(u-s):=by
 unfold sl;by_cases z:lv ws cs i<=s
 ·rw[zGJ h hi z,zGJ h hi (QB z su),if_pos z];grind
 ·rcases n i hi with k | k
  ·exact absurd k z
  ·rw[zGp h hi (QB ut k),zGp h hi (QB su (QB ut k)),if_neg z];grind
theorem zDA{ws cs:List Int}(h:Wt ws cs){s t u:Rat}(n:zOM ws cs s t)(su:s<=u)(ut:u<=t):QQ ws cs u-QQ ws cs s=iY (sl ws cs s) (List.range cs.length)*(u-s):=by
 unfold QQ;rw[<-zFR,eN (g:=fun i=>sl ws cs s i*(u-s)) fun i hi=>zAV h n su ut (Qj.mp hi)];rw[dX];grind
theorem lM{ws cs:List Int}(h:Wt ws cs){s t:Rat}(l:s<=t):QQ ws cs s<=QQ ws cs t:=sG fun i hi=>nH (h.pos (Qj.mp hi)) l
theorem zRC{ws cs:List Int}(h:Wt ws cs){s t:Rat}(e:QQ ws cs s=QQ ws cs t){i:Nat}(hi:i<cs.length):dY (cR cs) (cR ws) s i=dY (cR cs) (cR ws) t i:=zBg (fun i hi=>h.pos (Qj.mp hi)) e i (Qj.mpr hi)
theorem zPt{ws cs:List Int}(h:Wt ws cs){s t:Rat}(st:s<=t)(n:zOM ws cs s t){i:Nat}(hi:i<cs.length){f:Rat->Rat}(hf:∀ x,QQ ws cs s<=x->x<=QQ ws cs t->∃ u,QQ ws cs u=x/\f x=dY (cR cs) (cR ws) u i):Lin f (QQ ws cs s) (QQ ws cs t):=by
 have ab:=lM h st
 have at':∀ v,s<=v->v<=t->f (QQ ws cs v)=dY (cR cs) (cR ws) v i:=fun v h1 h2=>by
  obtain⟨u,e1,e2⟩:=hf _ (lM h h1) (lM h h2);rw[e2,zRC h e1 hi]
 have fa:=at' s Qh st;have fb:=at' t st Qh;intro x h1 h2;obtain⟨u,e1,e2⟩:=hf x h1 h2;rcases Vm (a:=u) (b:=s) with z | z
 ·have q:=lM h z
  have ex:x=QQ ws cs s:=by grind
  subst ex;grind
 rcases Vm (a:=t) (b:=u) with z' | z'
 ·have q:=lM h z'
  have ex:x=QQ ws cs t:=by grind
  subst ex;grind
 have d1:=zDA h n z z';have d2:=zDA h n st Qh;have g1:=zAV h n z z' hi;have g2:=zAV h n st Qh hi;rw[e1] at d1;rw[e2,fa,fb,g1,g2,d1,d2];grind
theorem zIT{ws cs:List Int}(h:Wt ws cs){q:Rat}:∀ {l:List Rat} {s:Rat},Cn (fun s t=>s<=t/\zOM ws cs s t) (s::l)->QQ ws cs s<=q->q<=QQ ws cs ((s::l).getLast (by simp))->∃ u,s<=u/\QQ ws cs u=q
 | [],s,_,h1,h2=>⟨s,Qh,by
  have h2':q<=QQ ws cs s:=h2
  grind⟩
 | t::l,s,hc,h1,h2=>by
  obtain⟨⟨st,n⟩,hc'⟩:=hc;rcases Vm (a:=QQ ws cs t) (b:=q) with z | z
  ·obtain⟨u,u1,u2⟩:=zIT h hc' z (by simpa using h2)
   exact⟨u,QB st u1,u2⟩
  ·by_cases e:QQ ws cs s=QQ ws cs t
   ·exact⟨s,Qh,by grind⟩
   have d2:=zDA h n st Qh;generalize iY (sl ws cs s) (List.range cs.length)=W at d2;have lt:QQ ws cs s<QQ ws cs t:=by have:=lM h st;grind
   have p:0<QQ ws cs t-QQ ws cs s:=by grind
   have nz:QQ ws cs t-QQ ws cs s≠0:=by grind
   have lam:0<=(q-QQ ws cs s) / (QQ ws cs t-QQ ws cs s)/\(q-QQ ws cs s) / (QQ ws cs t-QQ ws cs s)<=1:=by
    refine⟨sZ p ?_,sZ p ?_⟩
    ·rw[Q8 nz];grind
    ·rw[Q8 nz];grind
   have le:(q-QQ ws cs s) / (QQ ws cs t-QQ ws cs s)*(QQ ws cs t-QQ ws cs s)=q-QQ ws cs s:=Q8 nz;generalize (q-QQ ws cs s) / (QQ ws cs t-QQ ws cs s)=k at lam le;have ts:0<=t-s:=by grind
   have m1:=Xi lam.1 ts;have m2:=Q3 lam.2 ts;refine⟨s+k*(t-s),by grind,?_⟩
   have d1:=zDA h n (u:=s+k*(t-s)) (by grind) (by grind)
   have d2':=zDA h n st Qh;grind
theorem zJx:∀(n:Nat)(g:Nat->Rat),∃ M,∀ i,i<n->Sz M (g i)
 | 0,_=>⟨0,fun i h=>by omega⟩
 | n+1,g=>by
  obtain⟨M,h⟩:=zJx n g;refine⟨M+((g n).num.natAbs+(g n).den),fun i hi=>?_⟩
  by_cases z:i=n
  ·rw[z];exact(zQy (g n)).mono (by omega)
  ·exact(h i (by omega)).mono (by omega)
theorem zRQ{ws cs:List Int}(h:Wt ws cs)(hc:Cl cs){q:Rat}(q0:0<=q)(q1:q<=(cs.sum:Rat)):∃ u,0<=u/\QQ ws cs u=q:=by
 generalize hA:(List.range cs.length).map (lv ws cs)=A;have pm:(A.mergeSort fun a b=>decide (a<=b)).Perm A:=Yz A _
 have so:(A.mergeSort fun a b=>decide (a<=b)).Pairwise (·<=·):=by
  have:=YA (le:=fun a b:Rat=>decide (a<=b)) (fun a b c h1 h2=>by
   have h1':=of_decide_eq_true h1;have h2':=of_decide_eq_true h2
   exact decide_eq_true (QB h1' h2')) (fun a b=>by
   rcases Vm (a:=a) (b:=b) with z | z
   ·simp[z]
   ·simp[z]) A
  exact this.imp fun h=>of_decide_eq_true h
 generalize A.mergeSort (fun a b=>decide (a<=b))=L at pm so
 have nn:∀ x∈L,0<=x:=fun x hx=>by
  have hx':=pm.mem_iff.mp hx;rw[<-hA] at hx';obtain⟨i,hi,rfl⟩:=Qo.mp hx';exact zHi h hc (Qj.mp hi)
 have so':(0::L).Pairwise (·<=·):=Qq.mpr ⟨nn,so⟩;have cn:=wR (A:=A) so' fun x hx=>.inl (Qc _ (pm.mem_iff.mpr hx))
 have cn':Cn (fun s t=>s<=t/\zOM ws cs s t) (0::L):=cn.imp fun a b hab=>⟨hab.1,fun i hi=>hab.2 _ (by rw[<-hA];exact Qo.mpr ⟨i,Qj.mpr hi,rfl⟩)⟩
 have z0:QQ ws cs 0=0:=by
  unfold QQ;rw[eN (g:=fun i=>cR ws i*0) fun i hi=>zGp h (Qj.mp hi) (zHi h hc (Qj.mp hi)),dX];grind
 have zl:QQ ws cs ((0::L).getLast (by simp))=(cs.sum:Rat):=by
  unfold QQ;rw[eN (g:=cR cs) fun i hi=>zGJ h (Qj.mp hi) ?_]
  ·exact tK cs
  ·have m:lv ws cs i∈L:=pm.mem_iff.mpr (by rw[<-hA];exact Qo.mpr ⟨i,hi,rfl⟩)
   have key:∀ {l:List Rat} (ne:l≠[]),l.Pairwise (·<=·)->∀ x∈l,x<=l.getLast ne:=by
    intro l
    induction l with
    | nil=>intro ne;exact absurd rfl ne
    | cons a r ih=>
     intro ne hp x hx;obtain⟨p1,p2⟩:=Qq.mp hp
     cases r with
     | nil=>rw[Qu.mp hx];exact Qh
     | cons b r=>
      rw[List.getLast_cons (by simp)];rcases Qd.mp hx with rfl | hx
      ·exact QB (p1 b Qb) (ih (by simp) p2 b Qb)
      ·exact ih (by simp) p2 x hx
   exact key (by simp) so' _ (Qc _ m)
 exact zIT h cn' (by rw[z0];exact q0) (by rw[zl];exact q1)
theorem zFk{ws cs:List Int}(h:Wt ws cs)(hc:Cl cs){q:Rat}(q0:0<=q)(q1:q<=(cs.sum:Rat)):∃ M t,Lvl M ws cs q t:=by
 obtain⟨u,u0,e⟩:=zRQ h hc q0 q1;obtain⟨M,hM⟩:=zJx cs.length (dY (cR cs) (cR ws) u);exact⟨M,u,u0,e,hM⟩
theorem zPo{w:Wy}{ws cs:List Int}(hw:w.due ws cs)(hc:Cl cs){q:Rat}(q0:0<=q)(q1:q<=(cs.sum:Rat)):∃ f M,Al M ws cs q f w:=by
 cases w with
 | row=>exact⟨_,0,fun i _=>rfl⟩
 | back=>exact⟨_,0,fun i _=>rfl⟩
 | part=>exact⟨_,0,fun i _=>rfl⟩
 | even=>
  obtain⟨M,t,tl⟩:=zFk hw hc q0 q1;exact⟨_,M,t,tl,fun i _=>rfl⟩
 | lack=>
  obtain⟨M,t,tl⟩:=zFk hw hc (q:=(cs.sum:Rat)-q) (by grind) (by grind)
  exact⟨_,M,t,tl,fun i _=>rfl⟩
 | half=>
  by_cases z:(cs.sum:Rat)<q+q
  ·obtain⟨M,t,tl⟩:=zFk (fE cs) hc (q:=((cs.sum:Rat)-q)+((cs.sum:Rat)-q)) (by grind) (by grind)
   exact⟨_,M,t,.inr ⟨z,tl,fun i _=>rfl⟩⟩
  ·have z':=Q7.mp z
   obtain⟨M,t,tl⟩:=zFk (fE cs) hc (q:=q+q) (by grind) z'
   exact⟨_,M,t,.inl ⟨z',tl,fun i _=>rfl⟩⟩
open Classical in
def FF(w:Wy)(ws cs:List Int)(q:Rat):Nat->Rat:=if h:∃ f M,Al M ws cs q f w then Classical.choose h else fun _=>0
theorem xY{w:Wy}{ws cs:List Int}(hw:w.due ws cs)(hc:Cl cs){q:Rat}(q0:0<=q)(q1:q<=(cs.sum:Rat)):∃ M,Al M ws cs q (FF w ws cs q) w:=by
 unfold FF;rw[dif_pos (zPo hw hc q0 q1)];exact Xu (zPo hw hc q0 q1)
theorem zDw{M:Nat}{w:Wy}{ws cs:List Int}(hw:w.due ws cs)(hc:Cl cs){q:Rat}{f:Nat->Rat}(q0:0<=q)(q1:q<=(cs.sum:Rat))(a:Al M ws cs q f w){i:Nat}(hi:i<cs.length):f i=FF w ws cs q i:=by
 obtain⟨M',b⟩:=xY hw hc q0 q1;exact zQW hw a b hi
theorem zKO{w:Wy}{ws cs:List Int}(hw:w.due ws cs)(hc:Cl cs){q:Rat}(q0:0<=q)(q1:q<=(cs.sum:Rat)):(∀ i,i<cs.length->0<=FF w ws cs q i/\FF w ws cs q i<=cR cs i)/\((List.range cs.length).map (FF w ws cs q)).sum=q:=by
 obtain⟨M,b⟩:=xY hw hc q0 q1;exact zQi hw hc q0 q1 b
theorem zNu{w:Wy}{ws cs:List Int}(hw:w.due ws cs)(hc:Cl cs){q q':Rat}(q0:0<=q)(l:q<=q')(q1:q'<=(cs.sum:Rat)){i:Nat}(hi:i<cs.length):FF w ws cs q i<=FF w ws cs q' i:=by
 obtain⟨M,a⟩:=xY hw hc q0 (QB l q1);obtain⟨M',b⟩:=xY hw hc (QB q0 l) q1;exact zOr hw hc a b l hi
theorem zMB{w:Wy}{ws cs:List Int}(hw:w.due ws cs)(hc:Cl cs){q:Rat}(q0:0<=q)(q1:q<=(cs.sum:Rat)){i:Nat}(hi:i<cs.length):FF w.con ws cs ((cs.sum:Rat)-q) i=cR cs i-FF w ws cs q i:=by
 obtain⟨M,a⟩:=xY hw hc q0 q1;obtain⟨M',b⟩:=xY (zMR hw) hc (q:=(cs.sum:Rat)-q) (by grind) (by grind)
 exact zQu hw hc q0 q1 a b hi
theorem zDr{f:Nat->Rat}:∀ {l:List Nat},(∀ i∈l,0<=f i)->iY f l=0->∀ i∈l,f i=0
 | [],_,_,i,h=>by cases h
 | a::l,hn,e,i,h=>by
  have p:0<=iY f l:=by
   have:∀ {l:List Nat},(∀ i∈l,0<=f i)->0<=iY f l:=by
    intro l
    induction l with
    | nil=>intro _;rw[iV];exact Qh
    | cons b l ih=>intro hl;rw[bG];have:=hl b Qb;have:=ih fun x hx=>hl x (Qc _ hx);grind
   exact this fun x hx=>hn x (Qc _ hx)
  have a0:=hn a Qb;rw[bG] at e;rcases Qd.mp h with rfl | h
  ·grind
  ·exact zDr (fun x hx=>hn x (Qc _ hx)) (by grind) i h
theorem zIq{w:Wy}{ws cs:List Int}(hw:w.due ws cs)(hc:Cl cs){i:Nat}(hi:i<cs.length):FF w ws cs 0 i=0:=by
 have s0:(0:Rat)<=(cs.sum:Rat):=by exact_mod_cast hc.sum.1
 obtain⟨b,s⟩:=zKO hw hc Qh s0;exact zDr (fun i hi=>(b i (Qj.mp hi)).1) s i (Qj.mpr hi)
theorem zDQ{w:Wy}{ws cs:List Int}(hw:w.due ws cs)(hc:Cl cs){i:Nat}(hi:i<cs.length):FF w ws cs (cs.sum:Rat) i=cR cs i:=by
 have s0:(0:Rat)<=(cs.sum:Rat):=by exact_mod_cast hc.sum.1
 obtain⟨b,s⟩:=zKO hw hc s0 Qh
 have e:=sQ (f:=FF w ws cs (cs.sum:Rat)) (g:=cR cs) (l:=List.range cs.length) (fun i hi=>(b i (Qj.mp hi)).2) (by
  show((List.range cs.length).map _).sum=_
  rw[s]
  exact(tK cs).symm)
 exact e i (Qj.mpr hi)
theorem zAi:∀ {cs:List Int} {i j:Nat},(∀ c∈cs,0<=c)->i<j->j<=cs.length->(cs.take i).sum+cs.getD i 0<=(cs.take j).sum/\0<=(cs.take i).sum
 | [],i,j,_,h,h'=>by simp at h';omega
 | c::r,i,0,_,h,_=>by omega
 | c::r,0,j+1,hn,_,_=>by
  have hr:∀ l:List Int,(∀ c∈l,0<=c)->0<=l.sum:=by
   intro l
   induction l with
   | nil=>intro _;decide
   | cons a l ih=>intro hl;rw[QF];have:=hl a Qb;have:=ih fun x hx=>hl x (Qc _ hx);omega
  have:=hr (r.take j) fun x hx=>hn x (Qc _ (Xa hx))
  rw[Xt,QF];simp
  omega
 | c::r,i+1,j+1,hn,h,h'=>by
  have ih:=zAi (cs:=r) (i:=i) (j:=j) (fun x hx=>hn x (Qc _ hx)) (by omega) (by simpa using h')
  have:=hn c Qb
  rw[Xt,QF,Xt,QF];show c+_+r.getD i 0<=_/\_
  omega
def Jt(w:Wy)(ws cs:List Int)(a b:Rat):Prop:=0<=a/\a<=b/\b<=(cs.sum:Rat)/\∀ i,i<cs.length->Lin (fun x=>FF w ws cs x i) a b
theorem Lin.const{f:Rat->Rat}{a b k:Rat}(hab:a<=b)(h:∀ x,a<=x->x<=b->f x=k):Lin f a b:=fun x h1 h2=>by
 rw[h x h1 h2,h a Qh hab,h b hab Qh];grind
theorem Lin.line{f:Rat->Rat}{a b m k:Rat}(hab:a<=b)(h:∀ x,a<=x->x<=b->f x=m*x+k):Lin f a b:=fun x h1 h2=>by
 rw[h x h1 h2,h a Qh hab,h b hab Qh];grind
def rj:List Int->Int->List Rat
 | [],a=>[(a:Rat)]
 | c::r,a=>(a:Rat)::rj r (a+c)
theorem zEf(r:List Int)(a:Int):∃ t,rj r a=(a:Rat)::t:=by cases r<;>exact⟨_,rfl⟩
theorem zHr{cs:List Int}(hc:Cl cs):∀(post pre:List Int),cs=pre++post->Cn (Jt .row [] cs) (rj post pre.sum)
 | [],_,_=>trivial
 | c::r,pre,e=>by
  have ih:=zHr hc r (pre++[c]) (by rw[e];simp)
  rw[Vt,show([c]:List Int).sum=c by simp] at ih;obtain⟨t,et⟩:=zEf r (pre.sum+c);rw[rj,et];rw[et] at ih;refine⟨?_,ih⟩
  have hk:pre.length<cs.length:=by rw[e];simp
  have tk:cs.take pre.length=pre:=by rw[e];exact List.take_left
  have ck:cs.getD pre.length 0=c:=by rw[e,Qx,QS (Qg _)];simp
  have c0:0<=c:=hc.nn c (by rw[e];simp)
  have p0:0<=pre.sum:=by
   have:∀ l:List Int,(∀ c∈l,0<=c)->0<=l.sum:=by
    intro l
    induction l with
    | nil=>intro _;decide
    | cons a l ih=>intro hl;rw[QF];have:=hl a Qb;have:=ih fun x hx=>hl x (Qc _ hx);omega
   exact this pre fun x hx=>hc.nn x (by rw[e];exact Vx _ hx)
  have r0:0<=r.sum:=by
   have:∀ l:List Int,(∀ c∈l,0<=c)->0<=l.sum:=by
    intro l
    induction l with
    | nil=>intro _;decide
    | cons a l ih=>intro hl;rw[QF];have:=hl a Qb;have:=ih fun x hx=>hl x (Qc _ hx);omega
   exact this r fun x hx=>hc.nn x (by rw[e];exact Qz _ (Qc _ hx))
  have se:cs.sum=pre.sum+c+r.sum:=by rw[e,Vt,QF];omega
  have ab:(pre.sum:Rat)<=((pre.sum+c:Int):Rat):=Vu.mpr (by omega)
  have bS:((pre.sum+c:Int):Rat)<=(cs.sum:Rat):=Vu.mpr (by omega)
  have a0:(0:Rat)<=(pre.sum:Rat):=by exact_mod_cast p0
  refine⟨a0,ab,bS,fun i hi=>?_⟩
  have fx:∀ x,(pre.sum:Rat)<=x->x<=((pre.sum+c:Int):Rat)->FF .row [] cs x i=mn (ps0 (x-((0+(cs.take i).sum:Int):Rat))) (cR cs i):=fun x h1 h2=>by
   rw[<-zDw (M:=0) (w:=.row) (ws:=[]) (f:=zFw cs x) rfl hc (QB a0 h1) (QB h2 bS) (fun i _=>rfl) hi];exact zAN cs 0 x i hi
  have ci:=(zIO hc hi).1;rcases Nat.lt_trichotomy i pre.length with z | z | z
  ·have tu:=(zAi hc.nn z (Vo hk)).1
   rw[tk] at tu;refine Lin.const ab (k:=cR cs i) fun x h1 h2=>?_
   rw[fx x h1 h2]
   have tu':((0+(cs.take i).sum:Int):Rat)+cR cs i<=(pre.sum:Rat):=by
    unfold cR;rw[<-QU];exact Vu.mpr (by omega)
   unfold mn ps0;grind
  ·subst z
   refine Lin.line ab (m:=1) (k:=-(pre.sum:Rat)) fun x h1 h2=>?_
   rw[fx x h1 h2,tk,Int.zero_add];have:cR cs pre.length=(c:Rat):=by unfold cR;rw[ck]
   rw[this];rw[QU] at h2;unfold mn ps0;grind
  ·have tu:=(zAi hc.nn z (Vo hi)).1
   rw[tk,ck] at tu;refine Lin.const ab (k:=0) fun x h1 h2=>?_
   rw[fx x h1 h2];have tu':((pre.sum+c:Int):Rat)<=((0+(cs.take i).sum:Int):Rat):=Vu.mpr (by omega)
   unfold mn ps0;grind
theorem zPM{cs:List Int}(hc:Cl cs):Cn (Jt .row [] cs) (rj cs 0):=zHr hc cs [] rfl
theorem zMN{cs:List Int}(hc:Cl cs):Cn (Jt .part [] cs) [0,(cs.sum:Rat)]:=by
 have s0:(0:Rat)<=(cs.sum:Rat):=by exact_mod_cast hc.sum.1
 refine⟨⟨Qh,s0,Qh,fun i hi=>?_⟩,trivial⟩
 have fx:∀ x,0<=x->x<=(cs.sum:Rat)->FF .part [] cs x i*(cs.sum:Rat)=x*cR cs i:=fun x h1 h2=>by
  rw[<-zDw (M:=0) (w:=.part) (ws:=[]) (f:=kR cs x) rfl hc h1 h2 (fun i _=>rfl) hi];exact(jM hc hi).1
 intro x h1 h2;have e0:=zIq (w:=.part) (ws:=[]) rfl hc hi;have e1:=fx x h1 h2;have e2:=zDQ (w:=.part) (ws:=[]) rfl hc hi;show(FF .part [] cs x i-FF .part [] cs 0 i)*_=_*(FF .part [] cs (cs.sum:Rat) i-FF .part [] cs 0 i)
 rw[e0,e2];generalize FF Wy.part [] cs x i=y at *;generalize (cs.sum:Rat)=S at *;generalize cR cs i=c at *;grind
theorem zHO{R R':Rat->Rat->Prop}{g:Rat->Rat}(h:∀ a b,R a b->R' (g a) (g b)):∀ {l:List Rat},Cn R l->Cn R' (l.map g)
 | [],_=>trivial
 | [_],_=>trivial
 | a::b::l,k=>⟨h a b k.1,zHO h k.2⟩
theorem zKd{R:Rat->Rat->Prop}:∀ {l l':List Rat},Cn R l->Cn R l'->(∀ x y,l.getLast?=some x->l'.head?=some y->R x y)->Cn R (l++l')
 | [],_,_,h,_=>h
 | [a],[],_,_,_=>trivial
 | [a],b::l',_,h,k=>⟨k a b rfl rfl,h⟩
 | a::b::l,l',h,h',k=>⟨h.1,zKd h.2 h' fun x y hx hy=>k x y (by simpa using hx) hy⟩
theorem zHQ{R R':Rat->Rat->Prop}{g:Rat->Rat}(h:∀ a b,R a b->R' (g b) (g a)):∀ {l:List Rat},Cn R l->Cn R' (l.reverse.map g)
 | [],_=>trivial
 | [_],_=>trivial
 | a::b::l,k=>by
  have ih:=zHQ (l:=b::l) h k.2;rw[List.reverse_cons,QH];refine zKd ih trivial fun x y hx hy=>?_
  rw[VE,Yd] at hx;cases hx;cases hy;exact h a b k.1
theorem Lin.mir{f g:Rat->Rat}{a b S c:Rat}(hab:a<=b)(h:Lin f a b)(hg:∀ x,a<=x->x<=b->g (S-x)=c-f x):Lin g (S-b) (S-a):=fun x h1 h2=>by
 have k:=h (S-x) (by grind) (by grind)
 have e:=hg (S-x) (by grind) (by grind)
 rw[show S-(S-x)=x by grind] at e;rw[e,hg a Qh hab,hg b hab Qh];grind
theorem zLR{w:Wy}{ws cs:List Int}(hw:w.due ws cs)(hc:Cl cs){a b:Rat}(h:Jt w ws cs a b):Jt w.con ws cs ((cs.sum:Rat)-b) ((cs.sum:Rat)-a):=by
 obtain⟨h1,h2,h3,h4⟩:=h;refine⟨by grind,by grind,by grind,fun i hi=>?_⟩
 exact Lin.mir h2 (h4 i hi) (c:=cR cs i) fun x x1 x2=>zMB hw hc (QB h1 x1) (QB x2 h3) hi
theorem zRp{ws cs:List Int}(h:Wt ws cs)(hc:Cl cs){s t:Rat}(s0:0<=s)(st:s<=t)(n:zOM ws cs s t):Jt .even ws cs (QQ ws cs s) (QQ ws cs t):=by
 have g0:∀ i,i<cs.length->∀ t,0<=t->0<=dY (cR cs) (cR ws) t i/\dY (cR cs) (cR ws) t i<=cR cs i:=fun i hi t t0=>pI h hc t0 hi
 have q0:0<=QQ ws cs s:=by
  have:iY (fun i=>cR ws i*0) (List.range cs.length)<=QQ ws cs s:=sG fun i hi=>by
   have:=(g0 i (Qj.mp hi) s s0).1
   grind
  rw[dX] at this;grind
 have q1:QQ ws cs t<=(cs.sum:Rat):=by
  have:QQ ws cs t<=iY (cR cs) (List.range cs.length):=sG fun i hi=>(g0 i (Qj.mp hi) t (QB s0 st)).2
  have e:iY (cR cs) (List.range cs.length)=(cs.sum:Rat):=tK cs;rw[e] at this;exact this
 refine⟨q0,lM h st,q1,fun i hi=>zPt h st n hi fun x x1 x2=>?_⟩
 obtain⟨M,u,tl,e⟩:=xY (w:=.even) h hc (QB q0 x1) (QB x2 q1);exact⟨u,tl.sum,e i hi⟩
theorem zOF{ws cs:List Int}(h:Wt ws cs)(hc:Cl cs){ls:List Rat}(so:ls.Pairwise (·<=·))(hm:∀ i,i<cs.length->lv ws cs i∈ls)(h0:∀ x∈ls,0<=x):Cn (Jt .even ws cs) ((0::ls).map (QQ ws cs)):=by
 have so':(0::ls).Pairwise (·<=·):=Qq.mpr ⟨h0,so⟩;have cn:=wR (A:=0::ls) so' fun x hx=>.inl hx
 have pos:∀ {l:List Rat},(∀ x∈l,0<=x)->Cn (fun s t=>s<=t/\∀ x∈0::ls,x<=s∨t<=x) l->Cn (fun s t=>0<=s/\s<=t/\∀ x∈0::ls,x<=s∨t<=x) l:=by
  intro l
  induction l with
  | nil=>intro _ _;trivial
  | cons a r ih=>
   intro hp k
   cases r with
   | nil=>trivial
   | cons b r=>exact⟨⟨hp a Qb,k.1⟩,ih (fun x hx=>hp x (Qc _ hx)) k.2⟩
 refine zHO (fun a b hab=>?_) (pos (fun x hx=>?_) cn)
 ·exact zRp h hc hab.1 hab.2.1 fun i hi=>hab.2.2 _ (Qc _ (hm i hi))
 ·rcases Qd.mp hx with rfl | hx
  ·exact Qh
  ·exact h0 x hx
theorem vF{cs:List Int}(hc:Cl cs){q:Rat}(q0:0<=q)(q1:q+q<=(cs.sum:Rat)){i:Nat}(hi:i<cs.length):FF .half [] cs q i=FF .even (ones cs) cs (q+q) i*hf:=by
 have s0:(0:Rat)<=(cs.sum:Rat):=by exact_mod_cast hc.sum.1
 obtain⟨M,t,tl,e⟩:=xY (w:=.even) (ws:=ones cs) (fE cs) hc (q:=q+q) (by grind) q1
 rw[<-zDw (M:=M) (w:=.half) (ws:=[]) (f:=fun i=>dY (cR cs) (cR (ones cs)) t i*hf) rfl hc q0 (by grind) ⟨t,.inl ⟨q1,tl,fun i _=>rfl⟩⟩ hi,e i hi]
theorem zNn{cs:List Int}(hc:Cl cs){a b:Rat}(h:Jt .even (ones cs) cs a b):Jt .half [] cs (a*hf) (b*hf):=by
 obtain⟨h1,h2,h3,h4⟩:=h;have tw:∀ x:Rat,x*hf+x*hf=x:=fun x=>by rw[jO];grind
 have ta:=tw a;have tb:=tw b;have p:(0:Rat)<hf:=by rw[jO];grind
 have l1:=Q3 h1 (Qf p);have l2:=Q3 h2 (Qf p);refine⟨by grind,l2,by grind,fun i hi x x1 x2=>?_⟩
 have fx:∀ y,a*hf<=y->y<=b*hf->FF .half [] cs y i=FF .even (ones cs) cs (y+y) i*hf:=fun y y1 y2=>vF hc (by grind) (by grind) hi
 show(FF .half [] cs x i-FF .half [] cs (a*hf) i)*_=_*(FF .half [] cs (b*hf) i-FF .half [] cs (a*hf) i)
 rw[fx x x1 x2,fx (a*hf) Qh l2,fx (b*hf) l2 Qh,ta,tb];have k:=h4 i hi (x+x) (by grind) (by grind)
 have k':(FF .even (ones cs) cs (x+x) i-FF .even (ones cs) cs a i)*(b-a)=(x+x-a)*(FF .even (ones cs) cs b i-FF .even (ones cs) cs a i):=k;rw[show b*hf-a*hf=(b-a)*hf by grind];have hh:hf*(1+1)=1:=by rw[jO];grind
 generalize FF Wy.even (ones cs) cs (x+x) i=u at *;generalize FF Wy.even (ones cs) cs a i=v at *;generalize FF Wy.even (ones cs) cs b i=z at *;generalize hf=H at *;grind
structure JL (w:Wy) (ws cs:List Int) (l:List Rat):Prop where
 cn:Cn (Jt w ws cs) l
 hd:l.head?=some 0
 la:l.getLast?=some (cs.sum:Rat)
def ddR:Rat->List Rat->List Rat
 | _,[]=>[]
 | k,x::l=>if k<x then x::ddR x l else ddR k l
theorem zNF{w:Wy}{ws cs:List Int}:∀ {l:List Rat} {k:Rat},Cn (Jt w ws cs) (k::l)->Cn (fun a b=>a<b/\Jt w ws cs a b) (k::ddR k l)/\(k::ddR k l).getLast?=(k::l).getLast?
 | [],k,_=>⟨trivial,rfl⟩
 | x::l,k,h=>by
  rw[ddR];by_cases z:k<x
  ·rw[if_pos z]
   obtain⟨i1,i2⟩:=zNF h.2;refine⟨⟨⟨z,h.1⟩,i1⟩,?_⟩
   rw[Xb,Xb];exact i2
  ·rw[if_neg z]
   have e:k=x:=by have:=h.1.2.1;grind
   subst e;obtain⟨i1,i2⟩:=zNF h.2;refine⟨i1,?_⟩
   rw[i2,Xb]
theorem zHY:∀(l:List Rat)(k:Rat),(ddR k l).Sublist l
 | [],_=>List.Sublist.refl _
 | x::l,k=>by
  rw[ddR];split
  ·exact(zHY l x).cons₂ x
  ·exact(zHY l k).cons x
structure JS (w:Wy) (ws cs:List Int) (l:List Rat):Prop where
 cn:Cn (fun a b=>a<b/\Jt w ws cs a b) l
 hd:l.head?=some 0
 la:l.getLast?=some (cs.sum:Rat)
theorem JL.js{w:Wy}{ws cs:List Int}{l:List Rat}(h:JL w ws cs (0::l)):JS w ws cs (0::ddR 0 l):=by
 obtain⟨a,b⟩:=zNF h.cn;exact⟨a,rfl,by rw[b];exact h.la⟩
theorem zMK{R:Rat->Rat->Prop}:∀ {l:List Rat},Cn (fun a b=>a<b/\R a b) l->l.Pairwise (· < ·)
 | [],_=>.nil
 | [a],_=>Xv ..
 | a::b::l,h=>by
  have ih:=zMK h.2;refine Qq.mpr ⟨fun x hx=>?_,ih⟩
  rcases Qd.mp hx with rfl | hx
  ·exact h.1.1
  ·have z1:=h.1.1
   have z2:=(Qq.mp ih).1 x hx;grind
theorem zPL{R:Rat->Rat->Prop}:∀ {l:List Rat} {k:Nat} {a b:Rat},Cn R l->l[k]?=some a->l[k+1]?=some b->R a b
 | x::y::l,0,a,b,h,e1,e2=>by cases e1;cases e2;exact h.1
 | x::y::l,k+1,a,b,h,e1,e2=>zPL (k:=k) h.2 (by simpa using e1) (by simpa using e2)
 | [x],0,a,b,h,e1,e2=>by simp at e2
 | [x],k+1,a,b,h,e1,e2=>by simp at e2
 | [],k,a,b,h,e1,e2=>by simp at e1
def jpt(w:Wy)(ws cs:List Int)(l:List Rat)(i:Nat):List Pt:=l.map fun q=>(q,FF w ws cs q i)
theorem JS.bd{w:Wy}{ws cs:List Int}{l:List Rat}(h:JS w ws cs l):∀ x∈l,0<=x/\x<=(cs.sum:Rat):=by
 have p:=zMK h.cn;intro x hx;obtain⟨hd,la⟩:=(⟨h.hd,h.la⟩:_/\_)
 cases l with
 | nil=>cases hx
 | cons a r=>
  cases hd;refine⟨?_,?_⟩
  ·rcases Qd.mp hx with rfl | hx
   ·exact Qh
   ·exact Qf ((Qq.mp p).1 x hx)
  ·have key:∀ {l:List Rat} {e x:Rat},l.Pairwise (· < ·)->l.getLast?=some e->x∈l->x<=e:=by
    intro l
    induction l with
    | nil=>intro e x _ _ hx;cases hx
    | cons a r ih=>
     intro e x hp he hx;obtain⟨p1,p2⟩:=Qq.mp hp
     cases r with
     | nil=>rw[Qu.mp hx];cases he;exact Qh
     | cons b r=>
      rw[Xb] at he;rcases Qd.mp hx with rfl | hx
      ·exact QB (Qf (p1 b Qb)) (ih p2 he Qb)
      ·exact ih p2 he hx
   exact key p la hx
theorem zFX{w:Wy}{ws cs:List Int}{l:List Rat}(hw:w.due ws cs)(hc:Cl cs)(h:JS w ws cs l){i:Nat}(hi:i<cs.length):Ok (jpt w ws cs l i)/\(jpt w ws cs l i).getLast?=some ((cs.sum:Rat),cR cs i):=by
 have b:=h.bd;refine⟨⟨?_,?_⟩,?_⟩
 ·unfold jpt
  rw[Xh,h.hd];show some ((0:Rat),FF w ws cs 0 i)=_
  rw[zIq hw hc hi]
 ·unfold jpt
  rw[VD];refine VZ (fun {x y} hx hy hxy=>?_) (zMK h.cn)
  exact⟨hxy,zNu hw hc (b x hx).1 (Qf hxy) (b y hy).2 hi⟩
 ·unfold jpt
  rw[VE,h.la];show some ((cs.sum:Rat),FF w ws cs (cs.sum:Rat) i)=_
  rw[zDQ hw hc hi]
theorem zMY{w:Wy}{ws cs:List Int}{l:List Rat}(hw:w.due ws cs)(hc:Cl cs)(h:JS w ws cs l){i:Nat}(hi:i<cs.length){x:Rat}(x0:0<=x)(x1:x<=(cs.sum:Rat)):bC (jpt w ws cs l i) x=FF w ws cs x i:=by
 obtain⟨ok,la⟩:=zFX hw hc h hi
 have pt:∀ {k:Nat} {p:Pt},(jpt w ws cs l i)[k]?=some p->l[k]?=some p.1/\p.2=FF w ws cs p.1 i:=fun {k p} e=>by
  unfold jpt at e;rw[Qr] at e
  cases hk:l[k]? with
  | none=>rw[hk] at e;cases e
  | some a=>rw[hk] at e;cases e;exact⟨rfl,rfl⟩
 rcases vR ok.2 la (fun p hp=>by rw[ok.1] at hp;cases hp;exact x0) x1 with⟨k,p,e1,e2⟩ | ⟨k,p,q,e1,e2,e3,e4⟩
 ·have v:=bX ok.2 e1
  rw[(pt e1).2,e2] at v;exact v
 ·rw[cC ok.2 e1 e2 (Qf e3) (Qf e4)]
  obtain⟨a1,a2⟩:=pt e1;obtain⟨b1,b2⟩:=pt e2;obtain⟨lt,j⟩:=zPL h.cn a1 b1;have k:=j.2.2.2 i hi x (Qf e3) (Qf e4);have k':(FF w ws cs x i-FF w ws cs p.1 i)*(q.1-p.1)=(x-p.1)*(FF w ws cs q.1 i-FF w ws cs p.1 i):=k;unfold itp;rw[a2,b2];generalize FF w ws cs x i=u at *;generalize FF w ws cs p.1 i=v at *;generalize FF w ws cs q.1 i=z at *;have nz:q.1-p.1≠0:=by grind
  refine mE nz ?_
  have e:(x-p.1) / (q.1-p.1)*(q.1-p.1)=x-p.1:=Q8 nz;generalize (x-p.1) / (q.1-p.1)=r at *;grind
def wln(w:Wy)(ws cs:List Int)(l:List Rat)(i:Nat):List Pt:=lV (jpt w ws cs l i)
theorem zLF{w:Wy}{ws cs:List Int}{l:List Rat}(hw:w.due ws cs)(hc:Cl cs)(h:JS w ws cs l){i:Nat}(hi:i<cs.length):zPR (wln w ws cs l i)/\(wln w ws cs l i).getLast?=some ((cs.sum:Rat),cR cs i)/\(∀ p∈wln w ws cs l i,p.1∈l/\p.2=FF w ws cs p.1 i)/\∀ x,0<=x->x<=(cs.sum:Rat)->bC (wln w ws cs l i) x=FF w ws cs x i:=by
 obtain⟨ok,la⟩:=zFX hw hc h hi;unfold wln;refine⟨lL ok,by rw[wV ok.2];exact la,fun p hp=>?_,fun x x0 x1=>by rw[yQ ok.2];exact zMY hw hc h hi x0 x1⟩
 have m:=(oD ok.2).subset hp;unfold jpt at m;obtain⟨q,hq,rfl⟩:=Qo.mp m;exact⟨hq,rfl⟩
theorem uO:∀ {l m:List Rat},l.Perm m->l.Pairwise (·<=·)->m.Pairwise (·<=·)->l=m
 | [],m,p,_,_=>(List.nil_perm.mp p).symm
 | a::l,[],p,_,_=>by cases (List.perm_nil.mp p)
 | a::l,b::m,p,h,k=>by
  obtain⟨h1,h2⟩:=Qq.mp h;obtain⟨k1,k2⟩:=Qq.mp k
  have e:a=b:=by
   have x:a<=b:=by
    rcases Qd.mp (p.mem_iff.mpr Qb) with e | e
    ·rw[e];exact Qh
    ·exact h1 b e
   have y:b<=a:=by
    rcases Qd.mp (p.mem_iff.mp Qb) with e | e
    ·rw[e];exact Qh
    ·exact k1 a e
   grind
  subst e;rw[uO (List.perm_cons a |>.mp p) h2 k2]
theorem zDx{cs:List Int}{cd:D}(sc:Sq cd cs)(hc:Cl cs):fO [cd]=.ok (.f ((rj cs 0).map dq)):=by
 have hi:=hc.hi
 have lp:∀(r:List Int)(a:Int)(acc:List D)(s:Sl),acc.length+r.length<=1000->∃ a' s',fS (gName 3) oK (r.map D.int) [.val cd,.val (.int a),.own (acc++[dq (a:Rat)]),s]=.ok (.nx [.val cd,a',.own (acc++(rj r a).map dq),s']):=by
  intro r
  induction r with
  | nil=>intro a acc s _;exact⟨_,s,rfl⟩
  | cons c r ih=>
   intro a acc s hl;rw[Qn] at hl;obtain⟨a',s',e⟩:=ih (a+c) (acc++[dq (a:Rat)]) (.val (.int c)) (by rw[Qm];simp;omega)
   refine⟨a',s',?_⟩
   rw[Qs,eS (ρ1:=[.val cd,.val (.int a),.own (acc++[dq (a:Rat)]),.val (.int c)]) (ρ2:=[.val cd,.val (.int (a+c)),.own (acc++[dq (a:Rat)]++[dq ((a+c:Int):Rat)]),.val (.int c)]) rfl (by
    symm;rw[bU];symm
    rw[if_pos (by rw[Qm];simp;omega)]),e,rj,Qs,QY]
   rfl
 obtain⟨a',s',e⟩:=lp cs 0 [] .un (by simp;omega)
 rw[VA,VA] at e;unfold fO;symm;rw[sc.seq];symm;have e0:dq ((0:Int):Rat)=dq 0:=rfl;rw[e0] at e;rw[e];symm
theorem zJf{ws cs:List Int}(h:Wt ws cs){i:Nat}{pre post:List Nat}(hm:∀ j∈pre++i::post,j<cs.length)(so:(pre++i::post).Pairwise fun a b=>lv ws cs a<=lv ws cs b)(p:(pre++i::post).Perm (List.range cs.length)):QQ ws cs (lv ws cs i)=((wS cs pre:Int):Rat)+lv ws cs i*((wS ws (i::post):Int):Rat):=by
 unfold QQ;rw[<-vZ p]
 have app:∀(f:Nat->Rat)(a b:List Nat),iY f (a++b)=iY f a+iY f b:=by
  intro f a b
  induction a with
  | nil=>rw[VA,iV,Rat.zero_add]
  | cons x a ih=>rw[Xr,bG,bG,ih];grind
 obtain⟨s1,s2,s3⟩:=Yf.mp so;rw[app,eN (g:=cR cs) (l:=pre) fun j hj=>zGJ h (hm j (Vx _ hj)) (s3 j hj i Qb),mZ]
 rw[eN (g:=fun j=>cR ws j*lv ws cs i) (l:=i::post) fun j hj=>zGp h (hm j (Qz _ hj)) (by
  rcases Qd.mp hj with rfl | hj
  ·exact Qh
  ·exact(Qq.mp s2).1 j hj),dX,mZ]
theorem zQl{ws cs:List Int}(h:Wt ws cs)(hc:Cl cs){i:Nat}(hi:i<cs.length):Sz 104 (lv ws cs i)/\Dn (ws.getD i 0) (lv ws cs i):=by
 have w:=h.at hi;have c1:=hc.nn _ (Qi (bP hi));have c2:=hc.up _ (Qi (bP hi));refine⟨?_,cs.getD i 0,?_⟩
 ·unfold lv cR
  rw[<-VC];exact Sz.of (by omega) (by omega) (by omega)
 ·have e:=yX h hi
  have e':((ws.getD i 0:Int):Rat)*lv ws cs i=((cs.getD i 0:Int):Rat):=e;rw[<-e'];grind
theorem zMW{cs:List Int}(hn:∀ c∈cs,0<=c):∀ {π:List Nat},(∀ i∈π,i<cs.length)->0<=wS cs π
 | [],_=>by show(0:Int)<=0;decide
 | i::π,h=>by
  rw[nK];have a:=hn _ (Qi (bP (h i Qb)));have b:=zMW hn fun j hj=>h j (Qc _ hj)
  omega
theorem zMA(cs:List Int)(a b:List Nat):wS cs (a++b)=wS cs a+wS cs b:=by unfold wS;rw[QH,Vt]
theorem qL{ws cs:List Int}{wd cd:D}(sw:Sq wd ws)(sc:Sq cd cs)(h:Wt ws cs)(hc:Cl cs):∃ ls:List Rat,dL [wd,cd]=.ok (.f (((0::ls).map (QQ ws cs)).map dq))/\ls.Pairwise (·<=·)/\ls.Perm ((List.range cs.length).map (lv ws cs))/\QQ ws cs 0=0:=by
 have hcc:∀ c∈cs,0<=c/\c<10^30:=fun c h=>⟨hc.nn c h,hc.up c h⟩
 have hi:=hc.hi;have sm:=hc.sum;have hw:=h.len;have hkr:=yN (zMr h hcc) (by rw[zAh hw];exact hi)
 generalize hkz:(lvs ws cs).map (zKj (uC (lvs ws cs)))=kz at hkr;have lz:kz.length=cs.length:=by rw[<-hkz,Qe,zAh hw]
 have B0:(0:Rat)<(uC (lvs ws cs):Rat):=by exact_mod_cast zBA (lvs ws cs)
 have kat:∀ i,i<cs.length->((kz.getD i 0:Int):Rat)=lv ws cs i*(uC (lvs ws cs):Rat):=fun i h=>by
  have e:=zIP hw h;have e2:kz.getD i 0=zKj (uC (lvs ws cs)) (cR cs i / cR ws i):=by rw[<-hkz,Qx,Qr,e];rfl
  rw[e2];exact zMl (Qi e)
 have z0:QQ ws cs 0=0:=by
  unfold QQ;rw[eN (g:=fun i=>cR ws i*0) fun i hi=>zGp h (Qj.mp hi) (zHi h hc (Qj.mp hi)),dX];grind
 have ord:∀ π,hZ kz π->π.Perm (List.range cs.length)/\(∀ i∈π,i<cs.length)/\π.Pairwise fun a b=>lv ws cs a<=lv ws cs b:=by
  intro π hπ;obtain⟨hp,ho⟩:=hπ;rw[lz] at hp;have hm:∀ i∈π,i<cs.length:=fun i h=>Qj.mp (hp.mem_iff.mp h)
  refine⟨hp,hm,VZ (fun {i j} h1 h2 h3=>?_) ho⟩
  have h4:((kz.getD i 0:Int):Rat)<=((kz.getD j 0:Int):Rat):=Vu.mpr h3;rw[kat i (hm i h1),kat j (hm j h2)] at h4;exact VR h4 B0
 obtain⟨π0,hπ0⟩:=zEq kz;obtain⟨p0,m0,s0⟩:=ord π0 hπ0
 have key:∀ π,hZ kz π->π.map (lv ws cs)=π0.map (lv ws cs):=fun π hπ=>by
  obtain⟨p1,m1,s1⟩:=ord π hπ;exact uO ((p1.trans p0.symm).map _) (VD.mpr s1) (VD.mpr s0)
 refine⟨π0.map (lv ws cs),?_,VD.mpr s0,p0.map _,z0⟩
 have lp:∀(π:List Nat)(hπ:π.Perm (List.range cs.length))(so:π.Pairwise fun a b=>lv ws cs a<=lv ws cs b)(post pre:List Nat)(acc:List D)(s:Sl),π=pre++post->acc.length+post.length<=100->∃ a' b' s',fS (gName 6) gB (kO post) [.val wd,.val cd,.val (.int (wS cs pre)),.val (.int (wS ws post)),.val (.lst ((lvs ws cs).map dq)),.own acc,s]=.ok (.nx [.val wd,.val cd,a',b',.val (.lst ((lvs ws cs).map dq)),.own (acc++post.map fun i=>dq (QQ ws cs (lv ws cs i))),s']):=by
  intro π hπ so post
  induction post with
  | nil=>intro pre acc s _ _;exact⟨_,_,s,by rw[Vp,QK];rfl⟩
  | cons i post ih=>
   intro pre acc s e hl;have hm:∀ j∈pre++i::post,j<cs.length:=fun j hj=>Qj.mp (hπ.mem_iff.mp (by rw[e];exact hj))
   have hii:=hm i (by simp)
   have ss:=zJf h hm (by rw[<-e];exact so) (by rw[<-e];exact hπ)
   have W:=h.sum (π:=i::post) fun j hj=>hm j (Qz _ hj)
   have ln:(pre++i::post).length=cs.length:=by rw[<-e,hπ.length_eq,Qy]
   rw[Qm,Qn] at ln;rw[Qn] at W hl;have F0:=zMW hc.nn (π:=pre) fun j hj=>hm j (Vx _ hj)
   have F1:wS cs pre<=cs.sum:=by
    have t:=zAb (ws:=cs) (π:=pre++i::post) (by rw[<-e];exact hπ)
    rw[zMA] at t;have:=zMW hc.nn (π:=i::post) fun j hj=>hm j (Qz _ hj)
    omega
   obtain⟨a',b',s',e'⟩:=ih (pre++[i]) (acc++[dq (QQ ws cs (lv ws cs i))]) (.val (.int (i:Nat))) (by rw[e];simp) (by rw[Qm];simp;omega)
   refine⟨a',b',s',?_⟩
   have zl:=(zQl h hc hii).1;have zW:Sz 24 ((wS ws (i::post):Int):Rat):=cZ (by omega) (by decide)
   have zF:Sz 105 ((wS cs pre:Int):Rat):=cZ (by omega) (by decide)
   have ixl:oIx (.lst ((lvs ws cs).map dq)) (.int (i:Int))=.ok (dq (lv ws cs i)):=mY (Vg i) (zIP hw hii);show fS _ _ (.int (i:Nat)::kO post) _=_
   rw[eS (ρ1:=[.val wd,.val cd,.val (.int (wS cs pre)),.val (.int (wS ws (i::post))),.val (.lst ((lvs ws cs).map dq)),.own acc,.val (.int (i:Nat))]) (ρ2:=[.val wd,.val cd,.val (.int (wS cs (pre++[i]))),.val (.int (wS ws post)),.val (.lst ((lvs ws cs).map dq)),.own (acc++[dq (QQ ws cs (lv ws cs i))]),.val (.int (i:Nat))]) rfl (by
    symm;rw[bU];symm;rw[ixl];symm;rw[bU];symm;rw[nM zl zW (by decide)];symm;rw[zBP zF (zl.mul zW) (by decide),<-ss];symm;rw[if_pos (by omega)];symm;rw[sc.ix hii];symm;rw[sw.ix (by omega)];symm
    rw[zMA,nK ws,show wS cs [i]=cs.getD i 0 by unfold wS;simp,show ws.getD i 0+wS ws post-ws.getD i 0=wS ws post by omega]),e',QY]
   rfl
 have one:∀ π,hZ kz π->aX (fun ρ=>fS (gName 6) gB (kO π) ρ) nI [.val wd,.val cd,.val (.int 0),.val (.int ws.sum),.val (.lst ((lvs ws cs).map dq)),.own [dq 0],.un]=.ok (.ret (.f (((0::π0.map (lv ws cs)).map (QQ ws cs)).map dq))):=by
  intro π hπ;obtain⟨p1,m1,s1⟩:=ord π hπ;have lπ:π.length=cs.length:=by rw[p1.length_eq,Qy]
  obtain⟨a',b',s',e⟩:=lp π p1 s1 π [] [dq 0] .un rfl (by simp;omega)
  rw[show wS cs []=0 from rfl,zAb (ws:=ws) (π:=π) (by rw[hw];exact p1)] at e;refine(zLB (a:=fun ρ=>fS (gName 6) gB (kO π) ρ) e).trans ?_
  rw[<-key π hπ,Qs,z0,Qs,Qv,Qv];rfl
 unfold dL;symm;rw[sw.sum];symm;rw[wL sw sc h hi];symm;unfold nN;rw[zHZ (kz:=kz) (by symm; exact hkr) one];rfl
theorem sB{l:List Rat}{S:Int}(hl:l.length<=1000)(hz:∀ x∈l,Sz 300 x)(hS:S.natAbs<2^105):gH [.lst (l.map dq),dq (S:Rat)]=.ok (.f ((l.reverse.map fun x=>(S:Rat)-x).map dq)):=by
 have zS:Sz 105 (S:Rat):=cZ hS (by decide)
 unfold gH;symm;rw[show(l.map dq).reverse=l.reverse.map dq by rw[List.map_reverse]]
 rw[fA (u:=dq) (g:=fun x=>dq ((S:Rat)-x)) (by rw[Q5];omega) (fun x hx=>by
  symm;rw[eQ zS (hz x (Yg.mp hx)) (by decide)]
  symm)]
 symm;rw[Qv];rfl
theorem rR{l:List Rat}(hl:l.length<=900)(hz:∀ x∈0::l,Sz 300 x):dF [.lst ((0::l).map dq)]=.ok (.f ((0::ddR 0 l).map dq)):=by
 have lp:∀(r:List Rat)(acc:List Rat)(k:Rat)(d:Sl)(s:Sl),(∀ x∈r,Sz 300 x)->Sz 300 k->acc.length+r.length<=1000->∃ s',fS (gName 2) jG (r.map dq) [d,.own ((acc++[k]).map dq),s]=.ok (.nx [d,.own ((acc++k::ddR k r).map dq),s']):=by
  intro r
  induction r with
  | nil=>intro acc k d s _ _ _;exact⟨s,rfl⟩
  | cons x r ih=>
   intro acc k d s hr hk hl;rw[Qn] at hl;have hx:=hr x Qb;have ixk:oIx (.lst ((acc++[k]).map dq)) (.int (-1))=.ok (dq k):=zDK (k:=1) rfl (by decide) (by rw[Qm];simp) (by rw[Qm];simp)
   have hr':∀ y∈r,Sz 300 y:=fun y hy=>hr y (Qc _ hy)
   rw[Qs,ddR];by_cases z:k<x
   ·obtain⟨s',e⟩:=ih (acc++[k]) x d (.val (dq x)) hr' hx (by rw[Qm];simp;omega)
    refine⟨s',?_⟩
    rw[if_pos z,eS (ρ1:=[d,.own ((acc++[k]).map dq),.val (dq x)]) (ρ2:=[d,.own ((acc++[k]++[x]).map dq),.val (dq x)]) rfl (by
     cases d<;>(
      symm;rw[ixk];symm;rw[jT hk hx (by decide),decide_eq_true z];symm;rw[if_pos (by rw[Qm];simp;omega),QH (l₁:=acc++[k])]
      rfl)),e,QY]
    rfl
   ·obtain⟨s',e⟩:=ih acc k d (.val (dq x)) hr' hk (by omega)
    refine⟨s',?_⟩
    rw[if_neg z,eS (ρ1:=[d,.own ((acc++[k]).map dq),.val (dq x)]) (ρ2:=[d,.own ((acc++[k]).map dq),.val (dq x)]) rfl (by
     cases d<;>(
      symm;rw[ixk];symm;rw[jT hk hx (by decide),decide_eq_false z]
      symm)),e]
 obtain⟨s',e⟩:=lp (0::l) [] 0 (.val (.lst ((0::l).map dq))) .un hz ⟨by decide,by decide⟩ (by simp;omega)
 rw[VA,VA,ddR,if_neg (by decide)] at e;unfold dF;symm;rw[zGd (by decide),show((1:Int).toNat)=1 from rfl,show List.take 1 (dq 0::l.map dq)=[0].map dq from rfl];rw[Qs] at e;rw[e];rfl
theorem zRq{B S:Int}{x:Rat}(h:Dn B x)(hB:0<B)(hB':B<2^30)(h0:0<=x)(h1:x<=(S:Rat))(hS:S<2^104):Sz 300 x:=(h.sz (a:=104) (b:=30) hB hB' h0 h1 hS).mono (by decide)
def Jd(cs:List Int)(l:List Rat):Prop:=l.length<=30/\∀ x∈l,∃ B:Int,0<B/\B<=2*10^6/\Dn B x
theorem zNb{w:Wy}{ws cs:List Int}:∀ {l:List Rat},Cn (Jt w ws cs) l->2<=l.length->∀ x∈l,0<=x/\x<=(cs.sum:Rat)
 | [],_,h,x,hx=>by cases hx
 | [a],_,h,x,hx=>by simp at h
 | [a,b],h,_,x,hx=>by
  obtain⟨h1,h2,h3,_⟩:=h.1;rcases Qd.mp hx with rfl | hx
  ·exact⟨h1,QB h2 h3⟩
  ·rw[Qu.mp hx];exact⟨QB h1 h2,h3⟩
 | a::b::c::l,h,_,x,hx=>by
  obtain⟨h1,h2,h3,_⟩:=h.1;rcases Qd.mp hx with rfl | hx
  ·exact⟨h1,QB h2 h3⟩
  ·exact zNb h.2 (by simp) x hx
theorem zMz:∀(r:List Int)(a:Int),∀ x∈rj r a,∃ k:Int,x=(k:Rat)
 | [],a,x,h=>⟨a,Qu.mp h⟩
 | c::r,a,x,h=>by
  rcases Qd.mp h with rfl | h
  ·exact⟨a,rfl⟩
  ·exact zMz r (a+c) x h
theorem zLK:∀(r:List Int)(a:Int),(rj r a).length=r.length+1/\(rj r a).getLast?=some ((a+r.sum:Int):Rat)
 | [],a=>⟨rfl,by show some (a:Rat)=_;rw[X9,Int.add_zero]⟩
 | c::r,a=>by
  obtain⟨h1,h2⟩:=zLK r (a+c);refine⟨by rw[rj,Qn,h1,Qn],?_⟩
  obtain⟨t,et⟩:=zEf r (a+c);rw[rj,et,Xb,<-et,h2,QF,Yc]
theorem zOH{ws cs:List Int}(h:Wt ws cs)(hc:Cl cs){ls:List Rat}(so:ls.Pairwise (·<=·))(pm:ls.Perm ((List.range cs.length).map (lv ws cs))):∀ x∈(0::ls).map (QQ ws cs),∃ B:Int,0<B/\B<=10^6/\Dn B x:=by
 have gd:∀(t:Rat)(B:Int),Dn B t->Dn B (QQ ws cs t):=fun t B hB=>by
  have all:∀ l:List Nat,Dn B (iY (dY (cR cs) (cR ws) t) l):=by
   intro l
   induction l with
   | nil=>exact Dn.zero B
   | cons i l ih=>
    rw[bG];refine Dn.add (Dn.mn ?_ (Dn.int _ _)) ih
    obtain⟨k,hk⟩:=hB;refine⟨ws.getD i 0*k,?_⟩
    rw[QO,<-hk];show cR ws i*t*_=cR ws i*_
    grind
  exact all _
 intro x hx;obtain⟨t,ht,rfl⟩:=Qo.mp hx;rcases Qd.mp ht with rfl | ht
 ·exact⟨1,by decide,by decide,gd 0 1 (Dn.zero 1)⟩
 ·obtain⟨i,hi,rfl⟩:=Qo.mp (pm.mem_iff.mp ht)
  have hi':=Qj.mp hi;have w:=h.at hi';exact⟨ws.getD i 0,by omega,w.2,gd _ _ (zQl h hc hi').2⟩
theorem zIB(w:Wy):aW.lookup w.s=some w.con.s:=by
 cases w
 ·exact zIL
 ·exact zAz
 ·exact zFB
 ·exact zR
 ·exact zFv
 ·exact zAd
theorem zIp(w:Wy):dR [.str w.s]=.ok (.v (.str w.con.s)):=by
 have e:vD aW (.str w.s)=.ok (.str w.con.s):=by show zOO (aW.lookup w.s)=_;rw[zIB];rfl
 unfold dR;symm;rw[wT (zIB w)];symm;rw[e];symm
theorem zBK:∀ {l:List Rat} {e x:Rat},l.Pairwise (·<=·)->l.getLast?=some e->x∈l->x<=e
 | [],_,_,_,h,_=>by cases h
 | [a],e,x,_,h,hx=>by rw[Qu.mp hx];cases h;exact Qh
 | a::b::r,e,x,hp,h,hx=>by
  obtain⟨p1,p2⟩:=Qq.mp hp;rw[Xb] at h;rcases Qd.mp hx with rfl | hx
  ·exact QB (p1 b Qb) (zBK p2 h Qb)
  ·exact zBK p2 h hx
theorem zNJ{ws cs:List Int}(h:Wt ws cs)(hc:Cl cs){ls:List Rat}(so:ls.Pairwise (·<=·))(pm:ls.Perm ((List.range cs.length).map (lv ws cs)))(z0:QQ ws cs 0=0):JL .even ws cs ((0::ls).map (QQ ws cs)):=by
 have hm:∀ i,i<cs.length->lv ws cs i∈ls:=fun i hi=>pm.mem_iff.mpr (Qo.mpr ⟨i,Qj.mpr hi,rfl⟩)
 have h0:∀ x∈ls,0<=x:=fun x hx=>by
  obtain⟨i,hi,rfl⟩:=Qo.mp (pm.mem_iff.mp hx);exact zHi h hc (Qj.mp hi)
 refine⟨zOF h hc so hm h0,by rw[Qs,z0];rfl,?_⟩
 rw[VE];obtain⟨e,he⟩:∃ e,(0::ls).getLast?=some e:=⟨_,List.getLast?_eq_some_getLast (by simp)⟩
 rw[he];have so':(0::ls).Pairwise (·<=·):=Qq.mpr ⟨h0,so⟩;refine congrArg some ?_
 unfold QQ;rw[eN (g:=cR cs) fun i hi=>zGJ h (Qj.mp hi) (zBK so' he (Qc _ (hm i (Qj.mp hi))))];exact tK cs
theorem zMy{w:Wy}{ws cs:List Int}(hw:w.due ws cs)(hc:Cl cs){l:List Rat}(h:JL w ws cs l):JL w.con ws cs (l.reverse.map fun x=>(cs.sum:Rat)-x):=by
 refine⟨zHQ (fun a b k=>zLR hw hc k) h.cn,?_,?_⟩
 ·rw[Xh,List.head?_reverse,h.la]
  show some ((cs.sum:Rat)-(cs.sum:Rat))=some 0
  rw[show(cs.sum:Rat)-(cs.sum:Rat)=0 by grind]
 ·rw[VE,Yd,h.hd]
  show some ((cs.sum:Rat)-0)=_
  rw[show(cs.sum:Rat)-0=(cs.sum:Rat) by grind]
theorem zNp{cs:List Int}(hc:Cl cs){l:List Rat}(h:JL .even (ones cs) cs l):JL .half [] cs (l.map (· * hf)++(l.map (· * hf)).reverse.map fun x=>(cs.sum:Rat)-x):=by
 have c1:Cn (Jt .half [] cs) (l.map (· * hf)):=zHO (fun a b k=>zNn hc k) h.cn
 have c2:Cn (Jt .half [] cs) ((l.map (· * hf)).reverse.map fun x=>(cs.sum:Rat)-x):=zHQ (fun a b k=>zLR (w:=.half) (ws:=[]) rfl hc k) c1
 have s0:(0:Rat)<=(cs.sum:Rat):=by exact_mod_cast hc.sum.1
 have hh:hf+hf=1:=by rw[jO];grind
 have h0:(0:Rat)<=hf:=by rw[jO];grind
 have m0:=Xi s0 h0;refine⟨zKd c1 c2 fun x y hx hy=>?_,?_,?_⟩
 ·rw[VE,h.la] at hx
  rw[Xh,List.head?_reverse,VE,h.la] at hy;cases hx;cases hy
  have e:(cs.sum:Rat)-(cs.sum:Rat)*hf=(cs.sum:Rat)*hf:=by
   generalize (cs.sum:Rat)=S at *;generalize hf=H at *;grind
  show Jt .half [] cs ((cs.sum:Rat)*hf) ((cs.sum:Rat)-(cs.sum:Rat)*hf)
  rw[e];refine⟨m0,Qh,by grind,fun i hi x x1 x2=>?_⟩
  have:x=(cs.sum:Rat)*hf:=by grind
  subst this;grind
 ·cases l with
  | nil=>cases h.hd
  | cons a l=>
   cases h.hd
   show some ((0:Rat)*hf)=some 0
   rw[XT]
 ·have ne:((l.map (· * hf)).reverse.map fun x=>(cs.sum:Rat)-x).getLast?=some (cs.sum:Rat):=by
   rw[VE,Yd,Xh,h.hd];show some ((cs.sum:Rat)-0*hf)=_
   rw[show(cs.sum:Rat)-0*hf=(cs.sum:Rat) by grind]
  rw[List.getLast?_append,ne];rfl
theorem zNZ{w:Wy}{ws cs:List Int}(hc:Cl cs){l:List Rat}(h:JL w ws cs l)(h2:2<=l.length)(d:Jd cs l):∀ x∈l,Sz 300 x:=fun x hx=>by
 obtain⟨b0,b1⟩:=zNb h.cn h2 x hx;obtain⟨B,B0,B1,dn⟩:=d.2 x hx;exact zRq dn B0 (by omega) b0 b1 hc.sum.2
theorem zMP{w:Wy}{ws cs:List Int}{l:List Rat}(h:JL w ws cs l):∃ t,l=0::t:=by
 cases l with
 | nil=>cases h.hd
 | cons a t=>cases h.hd;exact⟨t,rfl⟩
section
variable{n:Nat}{ws cs:List Int}{wd cd e:D}
theorem zPc(sc:Sq cd cs)(hc:Cl cs):bK (n+1) [.str (Str.ofString "row"),e,cd]=.ok (.f ((rj cs 0).map dq)):=by
 show cB (bK n) _=_
 unfold cB;symm;rw[sc.sum];symm;rw[bU];symm;rw[zDx sc hc];symm
theorem zLJ(sw:Sq wd ws)(sc:Sq cd cs)(h:Wt ws cs)(hc:Cl cs):∃ ls:List Rat,bK (n+1) [.str (Str.ofString "even"),wd,cd]=.ok (.f (((0::ls).map (QQ ws cs)).map dq))/\ls.Pairwise (·<=·)/\ls.Perm ((List.range cs.length).map (lv ws cs))/\QQ ws cs 0=0:=by
 obtain⟨ls,e1,e2,e3,e4⟩:=qL sw sc h hc;refine⟨ls,?_,e2,e3,e4⟩
 show cB (bK n) _=_
 unfold cB;symm;rw[sc.sum];symm;rw[bU];symm;rw[zSw];symm;rw[e1];symm
theorem zPA(sc:Sq cd cs):bK (n+1) [.str (Str.ofString "part"),e,cd]=.ok (.f ([0,(cs.sum:Rat)].map dq)):=by
 show cB (bK n) _=_
 unfold cB;symm;rw[sc.sum];symm;rw[bU];symm;rw[zSm];symm;rw[zSD];symm
theorem zOW(sc:Sq cd cs)(hc:Cl cs):∃ ls:List Rat,bK (n+1) [.str (Str.ofString "half"),e,cd]=.ok (.f ((((0::ls).map (QQ (ones cs) cs)).map (· * hf)++(((0::ls).map (QQ (ones cs) cs)).map (· * hf)).reverse.map fun x=>(cs.sum:Rat)-x).map dq))/\ls.Pairwise (·<=·)/\ls.Perm ((List.range cs.length).map (lv (ones cs) cs))/\QQ (ones cs) cs 0=0:=by
 obtain⟨ls,e1,e2,e3,e4⟩:=qL (wd:=.lst ((ones cs).map D.int)) (.inl rfl) sc (fE cs) hc;have hi:=hc.hi;have sm:=hc.sum;have W:=fE cs;have jl:=zNJ W hc e2 e3 e4;have ll:((0::ls).map (QQ (ones cs) cs)).length=cs.length+1:=by rw[Qe,Qn,e3.length_eq,Qe,Qy]
 have bd:=zNb jl.cn (by rw[ll];have:=hc.lo;omega)
 have dn:=zOH W hc e2 e3;refine⟨ls,?_,e2,e3,e4⟩
 generalize (0::ls).map (QQ (ones cs) cs)=l at *
 have zl:∀ x∈l,Sz 134 x:=fun x hx=>by
  obtain⟨B,B0,B1,d⟩:=dn x hx;exact d.sz (a:=104) (b:=30) B0 (by omega) (bd x hx).1 (bd x hx).2 sm.2
 have eo:(ones cs).map D.int=List.replicate cs.length (.int 1):=by unfold ones;rw[List.map_replicate]
 rw[eo] at e1;have hh:=zPy;unfold d_HALF at hh;show cB (bK n) _=_
 unfold cB;symm;rw[sc.sum];symm;rw[bU];symm;rw[zRx];symm;rw[zRt];symm;rw[zRz];symm;rw[sc.len];symm;rw[zEV (by omega)];symm;rw[e1];symm
 rw[fA (u:=dq) (g:=fun x=>dq (x*hf)) (by omega) (fun x hx=>by
  symm;rw[hh,nM (zl x hx) zIS (by decide)]
  symm)]
 symm;have lm:l.map (fun x=>dq (x*hf))=(l.map (· * hf)).map dq:=by rw[Qv];rfl
 rw[lm,sB (S:=cs.sum) (by rw[Qe];omega) (fun x hx=>by
  obtain⟨y,hy,rfl⟩:=Qo.mp hx
  exact((zl y hy).mul zIS).mono (by decide)) (by omega)]
 symm;rw[if_pos (by simp only[Q5,Qe];omega),QH];symm
end
def SzQ(a b:Nat)(p:Pt):Prop:=Sz a p.1/\Sz b p.2
theorem zBO{a b c:Pt}{n m:Nat}(ha:SzQ n m a)(hb:SzQ n m b)(hc:SzQ n m c)(h:2*n+2*m+2<=8999):hJ [dp a,dp b,dp c]=.ok (.v (.bl (btw a b c))):=by
 unfold hJ;symm;rw[eQ hb.2 ha.2 (by omega)];symm;rw[eQ hc.2 hb.2 (by omega)];symm;rw[eQ hb.1 ha.1 (by omega)];symm;rw[eQ hc.1 hb.1 (by omega)];symm;rw[nM (hb.2.sub ha.2) (hc.1.sub hb.1) (by omega)];symm;rw[nM (hc.2.sub hb.2) (hb.1.sub ha.1) (by omega)];symm;rfl
theorem zBX{d:D}{ps:List Pt}{n m:Nat}(hd:d=.lst (ps.map dp)∨d=.tup (ps.map dp))(hl:ps.length<=100000)(hs:∀ p∈ps,SzQ n m p)(hn:2*n+2*m+2<=8999)(hk:Ok ps):iG [d]=.ok (.v .non):=by
 obtain⟨hh,hp⟩:=hk;have ln:kU [d]=.ok (.int (ps.length:Int)):=by rcases hd with rfl | rfl<;>simp[bLen_l,bLen_t]
 have ix:∀(i:Int)(k:Nat)(a:Pt),i=(k:Int)->ps[k]?=some a->oIx d (.int i)=.ok (dp a):=by
  intro i k a hi ha;subst hi;rcases hd with rfl | rfl
  ·exact mY (by omega) (by simpa using ha)
  ·exact eK (by omega) (by simpa using ha)
 clear hd
 have hpos:0<ps.length:=by cases ps with
  | nil=>cases hh
  | cons a r=>exact Vv _
 have h0:ps[0]?=some (0,0):=by rw[<-Vk];exact hh
 unfold iG;symm;rw[ln];symm;rw[decide_eq_false (by omega)];symm;rw[ix 0 0 _ rfl h0];symm;rw[ln];symm;rw[zEa (by omega) (by omega) (by omega) (by omega)];symm;refine kJ (Q:=fun r=>r=Res.ok (Rt.v D.non)) (fun i ρ=>∃ a b c,ρ=[.val d,a,b,c]) ⟨_,_,_,rfl⟩ ?_ ?_
 ·rintro i e ρ hd ⟨a,b,c,rfl⟩
  obtain⟨hi,rfl⟩:=yO hd;have h1:ps[i]?=some ps[i]:=Ql _;have h2:ps[i+1]?=some ps[i+1]:=Ql _;have z1:=hs _ (Qi h1);have z2:=hs _ (Qi h2);have za:=lW hp (QT i) h1 h2;generalize ps[i]=u at h1 z1 za;generalize ps[i+1]=v at h2 z2 za;symm;rw[ix _ i _ (by omega) h1];symm;rw[ix _ (i+1) _ (by omega) h2];symm;rw[jT z1.1 z2.1 (by omega)];symm;rw[decide_eq_true za.1];symm;rw[jT z2.2 z1.2 (by omega)];symm;rw[decide_eq_false (by rw[Q7];exact za.2)];symm;exact⟨_,rfl,_,_,_,rfl⟩
 ·rintro ρ' ⟨a,b,c,rfl⟩
  rfl
theorem qR{d:D}{ps:List Pt}{n m:Nat}(hd:d=.lst (ps.map dp)∨d=.tup (ps.map dp))(hl:ps.length<=100000)(hs:∀ p∈ps,SzQ n m p)(hn:2*n+2*m+2<=8999)(hk:Ok ps):eV [d]=.ok (.v (.tup ((lV ps).map dp))):=by
 have sq:zMw d=.ok (ps.map dp):=by rcases hd with rfl | rfl<;>rfl
 unfold eV;symm;rw[zBX hd hl hs hn hk];symm;rw[sq];symm;refine kJ (Q:=fun r=>r.bind fin=.ok (.v (.tup ((lV ps).map dp)))) (fun i ρ=>∃ a,ρ=[.val d,.own (((ps.take i).foldl push []).reverse.map dp),a]/\(∀ p∈(ps.take i).foldl push [],SzQ n m p)/\((ps.take i).foldl push []).length<=i) ⟨_,rfl,fun p hp=>by(rw[X0] at hp;cases hp),by rw[X0];exact Qg _⟩ ?_ ?_
 ·rintro i e ρ hd ⟨a,rfl,hz,hlen⟩
  rw[Qr] at hd
  cases hq:ps[i]? with
  | none=>rw[hq] at hd;cases hd
  | some p=>
   rw[hq] at hd;cases hd;have hi:i<ps.length:=(QC.mp hq).1;have zp:=hs _ (Qi hq);rw[oE hq,List.foldl_append,XC,List.foldl_nil];generalize (ps.take i).foldl push []=s at hz hlen;generalize hK:(wD:Sv)=K;symm;by_cases hc:1<s.length
   case neg=>
    rw[Q5,decide_eq_false (by omega)];subst hK;symm;rw[if_pos (by rw[Q5];omega),zGz hc];exact⟨_,rfl,.val (dp p),by simp,by intro q hq;rcases Qd.mp hq with rfl | hq;exact zp;exact hz q hq,by simp;omega⟩
   match s,hz,hlen,hc with
   | [],_,_,hc=>exact absurd hc (by decide)
   | [b],_,_,hc=>exact absurd hc (by simp)
   | b::a::s,hz,hlen,_=>
    have za:=hz a (Qc _ Qb);have zb:=hz b Qb;have zs:∀ q∈s,SzQ n m q:=fun q hq=>hz q (Qc _ (Qc _ hq))
    have e1:((b::a::s).reverse)[(b::a::s).reverse.length-1]?=some b:=by simp
    have e2:((b::a::s).reverse)[(b::a::s).reverse.length-2]?=some a:=by simp
    rw[Qn,Qn] at hlen;have hll:(b::a::s).reverse.length=s.length+2:=by simp
    rw[hll];rw[decide_eq_true (by omega)];symm;rw[zDK (i:=-2) (k:=2) rfl (by decide) (by rw[hll];omega) e2];symm;rw[zDK (i:=-1) (k:=1) rfl (by decide) (by rw[hll];omega) e1];symm;rw[zBO za zb zp hn];symm
    cases hb:btw a b p with
    | false=>
     subst hK;symm;rw[hll,if_pos (by omega)];refine⟨_,rfl,.val (dp p),?_,?_,?_⟩
     ·rw[push,hb]
      simp
     ·rw[push,hb]
      intro q hq;rcases Qd.mp hq with rfl | hq
      ·exact zp
      ·exact hz q hq
     ·rw[push,hb]
      simp;omega
    | true=>
     subst hK;symm;rw[hll,if_neg (by omega)];symm;rw[if_pos (by simp;omega)];refine⟨_,rfl,.val (dp p),?_,?_,?_⟩
     ·rw[push,hb]
      simp
     ·rw[push,hb]
      intro q hq;rcases Qd.mp hq with rfl | hq
      ·exact zp
      ·exact hz q (Qc _ hq)
     ·rw[push,hb]
      simp;omega
 ·rintro ρ' ⟨a,rfl,_,_⟩
  rw[Qe,Ve];symm;rfl
theorem zQb{w:Wy}{ws cs:List Int}{wd cd:D}{l:List Rat}(hw:w=.back∨w=.lack)(sc:Sq cd cs)(hc:Cl cs)(hl:l.length<=30)(hz:∀ x∈l,Sz 300 x)(e:bK 1 [.str w.con.s,wd,cd]=.ok (.f (l.map dq))):bK 2 [.str w.s,wd,cd]=.ok (.f ((l.reverse.map fun x=>(cs.sum:Rat)-x).map dq)):=by
 have sm:=hc.sum;have c:=zIp w;show cB (bK 1) _=_
 unfold cB;symm;rw[sc.sum];symm;rw[bU];symm;rcases hw with rfl | rfl
 ·rw[show Wy.back.s=Str.ofString "back" from rfl,zSd]
  symm;rw[zSC];symm;rw[zSB];symm;rw[zSh];symm;rw[show Str.ofString "back" = Wy.back.s from rfl,c];symm;rw[e];symm;rw[sB (by omega) hz (by omega)];symm
 ·rw[show Wy.lack.s=Str.ofString "lack" from rfl,zSp]
  symm;rw[zSr];symm;rw[zSg];symm;rw[zSk];symm;rw[show Str.ofString "lack" = Wy.lack.s from rfl,c];symm;rw[e];symm;rw[sB (by omega) hz (by omega)];symm
theorem zMa{cs:List Int}{l:List Rat}(h:Jd cs l):Jd cs (l.reverse.map fun x=>(cs.sum:Rat)-x):=by
 refine⟨by rw[Qe,Q5];exact h.1,fun x hx=>?_⟩
 obtain⟨y,hy,rfl⟩:=Qo.mp hx;obtain⟨B,b0,b1,d⟩:=h.2 y (Yg.mp hy);exact⟨B,b0,b1,(Dn.int B cs.sum).sub d⟩
theorem zKL{w:Wy}{ws cs:List Int}{wd cd:D}(sw:Sq wd ws)(sc:Sq cd cs)(hw:w.due ws cs)(hc:Cl cs):∃ l:List Rat,bK 2 [.str w.s,wd,cd]=.ok (.f (l.map dq))/\JL w ws cs l/\Jd cs l/\2<=l.length:=by
 have hi:=hc.hi;have lo:=hc.lo
 have row:JL .row [] cs (rj cs 0)/\Jd cs (rj cs 0)/\2<=(rj cs 0).length:=by
  obtain⟨l1,l2⟩:=zLK cs 0;refine⟨⟨zPM hc,?_,by rw[l2,Int.zero_add]⟩,⟨by omega,fun x hx=>?_⟩,by omega⟩
  ·obtain⟨t,et⟩:=zEf cs 0
   rw[et];rfl
  ·obtain⟨k,rfl⟩:=zMz cs 0 x hx
   exact⟨1,by decide,by decide,Dn.int 1 k⟩
 have evn:∀ ls:List Rat,Wt ws cs->ls.Pairwise (·<=·)->ls.Perm ((List.range cs.length).map (lv ws cs))->QQ ws cs 0=0->JL .even ws cs ((0::ls).map (QQ ws cs))/\Jd cs ((0::ls).map (QQ ws cs))/\2<=((0::ls).map (QQ ws cs)).length:=fun ls W e2 e3 e4=>by
  have ll:((0::ls).map (QQ ws cs)).length=cs.length+1:=by rw[Qe,Qn,e3.length_eq,Qe,Qy]
  refine⟨zNJ W hc e2 e3 e4,⟨by omega,fun x hx=>?_⟩,by omega⟩
  obtain⟨B,b0,b1,d⟩:=zOH W hc e2 e3 x hx;exact⟨B,b0,by omega,d⟩
 cases w with
 | row=>
  have e:ws=[]:=hw;subst e;exact⟨_,zPc (n:=1) (e:=wd) sc hc,row⟩
 | part=>
  have e:ws=[]:=hw;subst e;refine⟨_,zPA (n:=1) (e:=wd) sc,⟨zMN hc,rfl,rfl⟩,⟨by show 2<=30;decide,fun x hx=>?_⟩,Qg 2⟩
  rcases Qd.mp hx with rfl | hx
  ·exact⟨1,by decide,by decide,Dn.zero 1⟩
  ·rw[Qu.mp hx];exact⟨1,by decide,by decide,Dn.int 1 _⟩
 | even=>
  obtain⟨ls,e1,e2,e3,e4⟩:=zLJ (n:=1) sw sc hw hc;exact⟨_,e1,evn ls hw e2 e3 e4⟩
 | back=>
  have e:ws=[]:=hw;subst e;have k:=zQb (w:=.back) (ws:=[]) (.inl rfl) sc hc row.2.1.1 (zNZ hc row.1 row.2.2 row.2.1) (zPc (n:=0) (e:=wd) sc hc);exact⟨_,k,zMy (w:=.row) rfl hc row.1,zMa row.2.1,by rw[Qe,Q5];exact row.2.2⟩
 | lack=>
  obtain⟨ls,e1,e2,e3,e4⟩:=zLJ (n:=0) sw sc hw hc;obtain⟨r1,r2,r3⟩:=evn ls hw e2 e3 e4;have k:=zQb (w:=.lack) (ws:=ws) (.inr rfl) sc hc r2.1 (zNZ hc r1 r3 r2) e1;exact⟨_,k,zMy (w:=.even) hw hc r1,zMa r2,by rw[Qe,Q5];exact r3⟩
 | half=>
  have e:ws=[]:=hw;subst e;obtain⟨ls,e1,e2,e3,e4⟩:=zOW (n:=1) (e:=wd) sc hc;have W:=fE cs;have ll:((0::ls).map (QQ (ones cs) cs)).length=cs.length+1:=by rw[Qe,Qn,e3.length_eq,Qe,Qy]
  have jl:=zNJ W hc e2 e3 e4;have dn:=zOH W hc e2 e3;generalize (0::ls).map (QQ (ones cs) cs)=l at *;refine⟨_,e1,zNp hc jl,⟨?_,fun x hx=>?_⟩,?_⟩
  ·simp only[Qm,Qe,Q5];omega
  ·have early:∀ y∈l.map (· * hf),∃ B:Int,0<B/\B<=2*10^6/\Dn B y:=fun y hy=>by
    obtain⟨z,hz,rfl⟩:=Qo.mp hy;obtain⟨B,b0,b1,d⟩:=dn z hz;exact⟨B*2,by omega,by omega,zIw d⟩
   rcases QI.mp hx with hx | hx
   ·exact early x hx
   ·obtain⟨y,hy,rfl⟩:=Qo.mp hx
    obtain⟨B,b0,b1,d⟩:=early y (Yg.mp hy);exact⟨B,b0,b1,(Dn.int B cs.sum).sub d⟩
  ·simp only[Qm,Qe,Q5];omega
theorem zFI{α:Type}:∀ l:List α,l.zip l=l.map fun x=>(x,x)
 | []=>rfl
 | a::l=>by rw[List.zip_cons_cons,zFI l,Qs]
theorem zEK{w:Wy}{ws cs:List Int}{wd cd:D}(sw:Sq wd ws)(sc:Sq cd cs)(hw:w.due ws cs)(hc:Cl cs):∃ J:List Rat,gK [.str w.s,wd,cd]=.ok (.f ((List.range cs.length).map fun i=>.tup ((wln w ws cs J i).map dp)))/\JS w ws cs J/\J.length<=30/\(∀ x∈J,Sz 300 x/\∀ i,i<cs.length->Sz 670 (FF w ws cs x i))/\Jd cs J:=by
 obtain⟨l,e1,jl,jd,l2⟩:=zKL sw sc hw hc;have zl:=zNZ hc jl l2 jd;obtain⟨t,rfl⟩:=zMP jl;have js:=jl.js;have hi:=hc.hi;have lt:=jd.1;rw[Qn] at lt;have e2:=rR (l:=t) (by omega) zl
 have sub:=zHY t 0;have ln:(0::ddR 0 t).length<=30:=by rw[Qn];have:=sub.length_le;omega
 have zj:∀ x∈0::ddR 0 t,Sz 300 x:=fun x hx=>zl x (by
  rcases Qd.mp hx with rfl | hx
  ·exact Qb
  ·exact Qc _ (sub.subset hx))
 have dj:Jd cs (0::ddR 0 t):=⟨ln,fun x hx=>jd.2 x (by
  rcases Qd.mp hx with rfl | hx
  ·exact Qb
  ·exact Qc _ (sub.subset hx))⟩
 generalize 0::ddR 0 t=J at *;have bd:=js.bd
 have rd:∀ q∈J,aR 2 [.str w.s,wd,cd,dq q]=.ok (.f (((List.range cs.length).map (FF w ws cs q)).map dq))/\∀ i,i<cs.length->Sz 670 (FF w ws cs q i):=fun q hq=>by
  have ha:Haul 300 q cs.sum:=⟨(bd q hq).1,(bd q hq).2,zj q hq⟩;obtain⟨f,ef,af⟩:=zCq sw sc (by decide) hw hc ha
  have df:=zOq hw hc ha af;have eq:∀ i,i<cs.length->f i=FF w ws cs q i:=fun i hi=>zDw hw hc (bd q hq).1 (bd q hq).2 af hi
  refine⟨by rw[ef,Q6 (g:=FF w ws cs q) fun i hi=>eq i (Qj.mp hi)],fun i hi=>by rw[<-eq i hi];exact(df.bd i hi).2.2⟩
 refine⟨J,?_,js,ln,fun x hx=>⟨zj x hx,(rd x hx).2⟩,dj⟩
 unfold gK;symm;rw[zFD sw sc hw hc];symm;rw[e1];symm;rw[Qs] at e2;rw[e2];symm
 rw[fA (u:=dq) (g:=fun q=>D.lst (((List.range cs.length).map (FF w ws cs q)).map dq)) (by omega) (fun q hq=>by
  symm;rw[(rd q hq).1]
  symm)]
 symm;rw[sc.len];symm;rw[wJ (by omega) (by omega)];symm;rw[show rng 0 ((cs.length:Int)).toNat 1=(List.range cs.length).map fun j:Nat=>D.int (j:Int) by unfold rng;rw[Q2];exact Q6 fun j _=>by rw[show(0:Int)+(j:Int)*1=(j:Int) by omega]]
 rw[fA (u:=fun j:Nat=>D.int (j:Int)) (g:=fun i=>D.tup ((wln w ws cs J i).map dp)) (by rw[Qy];omega) (fun i hi=>by
  have hi':=Qj.mp hi
  have fl:mW [.lst (J.map dq),.lst (J.map fun q=>D.lst (((List.range cs.length).map (FF w ws cs q)).map dq)),.int (i:Int)]=.ok (.v (.tup ((wln w ws cs J i).map dp))):=by
   obtain⟨ok,la⟩:=zFX hw hc js hi';unfold mW;symm;rw[mQ rfl rfl];symm
   rw[mM (u:=dq) (v:=fun q=>D.lst (((List.range cs.length).map (FF w ws cs q)).map dq)) (g:=fun x y=>dp (x,FF w ws cs y i)) (by omega) (fun p hp=>by
    have e:oIx (.lst (((List.range cs.length).map (FF w ws cs p.2)).map dq)) (.int (i:Int))=.ok (dq (FF w ws cs p.2 i)):=by
     rw[Qv];exact mY (Vg i) (show(List.range cs.length)[i]?=some i from Vd hi')
    symm;rw[e]
    symm)]
   symm;rw[zFI,Qv,show(J.map ((fun p:Rat×Rat=>dp (p.1,FF w ws cs p.2 i)) ∘ fun x=>(x,x)))=(jpt w ws cs J i).map dp by unfold jpt;rw[Qv];rfl]
   rw[qR (n:=300) (m:=670) (.inl rfl) (by unfold jpt;rw[Qe];omega) (fun p hp=>by
    unfold jpt at hp;obtain⟨q,hq,rfl⟩:=Qo.mp hp
    exact⟨zj q hq,(rd q hq).2 i hi'⟩) (by decide) ok]
   symm;rfl
  symm;rw[fl]
  symm)]
 symm
theorem zFN{ps:List Pt}{p:Pt}(h:ps.getLast?=some p):lD [.tup (ps.map dp)]=.ok (.v (dq p.1)):=by
 have h0:0<ps.length:=by cases ps with
  | nil=>cases h
  | cons a r=>exact Vv _
 unfold lD;symm;rw[zAS (i:=-1) (k:=1) rfl (by decide) h0 (by rw[<-Q4];exact h)];symm
theorem zLj{ps:List Pt}{p:Pt}(h:ps.getLast?=some p):qJ [.tup (ps.map dp)]=.ok (.v (dq p.2)):=by
 have h0:0<ps.length:=by cases ps with
  | nil=>cases h
  | cons a r=>exact Vv _
 unfold qJ;symm;rw[zAS (i:=-1) (k:=1) rfl (by decide) h0 (by rw[<-Q4];exact h)];symm
theorem zHD(b:Bool)(p:Pt):oIx (dp p) (.int (axi b))=.ok (dq (ax b p)):=by cases b<;>rfl
theorem zFp(b:Bool)(p:Pt):oIx (dp p) (.int (1-axi b))=.ok (dq (ax (!b) p)):=by cases b<;>rfl
theorem zJO{x l:Rat}{m n:Nat}(hx:Sz m x)(hl:Sz n l)(h:m+n<=99990):eE [dq x,dq l]=.ok (.v (.bl (decide (x<0) || decide (l<x)))):=by
 unfold eE;symm;rw[jT (n:=1) hx ⟨by decide,by decide⟩ (by omega)];symm;by_cases c:x<0
 ·rw[decide_eq_true c]
  symm
 ·rw[decide_eq_false c]
  symm;rw[jT hl hx (by omega)];symm
theorem zGG{x l:Rat}{m n:Nat}(hx:Sz m x)(hl:Sz n l)(h:m+n<=99990)(h0:0<=x)(h1:x<=l):bH [dq x,dq l]=.ok (.v .non):=by
 unfold bH;symm;rw[zJO hx hl h,decide_eq_false (by grind),decide_eq_false (by grind)];symm
theorem tO{ps:List Pt}{n m:Nat}(b:Bool){y:Rat}(h0:0<ps.length)(hl:ps.length<=100000)(hs:∀ p∈ps,Sz n (ax b p))(hy:Sz m y)(hn:n+m<=99999)(hp:ps.Pairwise asc):
  ∃ k:Nat,dP [.tup (ps.map dp),.int (axi b),dq y]=.ok (.v (.int (k:Int)))/\k<ps.length/\(∀ j p,j<k->ps[j]?=some p->ax b p<y)/\(k+1=ps.length∨∃ p,ps[k]?=some p/\y<=ax b p):=by
 unfold dP;symm
 refine zGh (fun ρ=>∃(u v:Nat)(r:Sl),ρ=[.val (.tup (ps.map dp)),.val (.int (axi b)),.val (dq y),.val (.int (u:Int)),.val (.int (v:Int)),r]/\u<=v/\v<ps.length/\(∀ j p,j<u->ps[j]?=some p->ax b p<y)/\(v+1=ps.length∨∃ p,ps[v]?=some p/\y<=ax b p))
  (fun ρ=>(slI 4 ρ-slI 3 ρ).toNat)
  (fun r=>∃ k:Nat,(r.bind (zMC jW)).bind fin=.ok (.v (.int (k:Int)))/\k<ps.length/\(∀ j p,j<k->ps[j]?=some p->ax b p<y)/\(k+1=ps.length∨∃ p,ps[k]?=some p/\y<=ax b p))
  ⟨0,ps.length-1,_,by rw[show((ps.length-1:Nat):Int)=(ps.length:Int)-1 by omega];rfl,by omega,by omega,fun j p h=>absurd h (by omega),.inl (by omega)⟩ ?_
 rintro ρ ⟨u,v,r,rfl,h1,h2,h3,h4⟩
 by_cases c:u<v
 ·refine .inr ⟨?_,?_⟩
  ·symm
   rw[decide_eq_true (by omega)]
  ·obtain⟨mid,e,b1,b2⟩:∃ mid:Nat,((u:Int)+(v:Int)) / 2=(mid:Int)/\u<=mid/\mid<v:=⟨(u+v) / 2,by omega,by omega,by omega⟩
   have hm:mid<ps.length:=Nat.lt_trans b2 h2;have hq:ps[mid]?=some ps[mid]:=Ql hm;have hz:=hs _ (Qi hq);generalize ps[mid]=q at hq hz;symm;rw[e,eK (Vg _) (by rw[Q2];exact hq)];symm;rw[zHD];symm;rw[jT hz hy hn];symm;by_cases d:ax b q<y
   ·rw[decide_eq_true d]
    symm;refine⟨_,rfl,⟨mid+1,v,_,rfl,b2,h2,?_,h4⟩,?_⟩
    ·intro j p hj hpj
     have:=pG hp b (Nat.le_of_lt_succ hj) hpj hq
     grind
    ·show((v:Int)-((mid:Int)+1)).toNat<((v:Int)-(u:Int)).toNat
     omega
   ·rw[decide_eq_false d]
    symm;refine⟨_,rfl,⟨u,mid,_,rfl,b1,hm,h3,.inr ⟨q,hq,by grind⟩⟩,?_⟩
    show((mid:Int)-(u:Int)).toNat<((v:Int)-(u:Int)).toNat
    omega
 ·have e:u=v:=by omega
  subst e;refine .inl ⟨?_,u,?_,h2,h3,h4⟩
  ·symm
   rw[decide_eq_false (by omega)]
  ·symm
theorem zPl{ps:List Pt}{n l m:Nat}(b:Bool){y:Rat}(h0:0<ps.length)(hl:ps.length<=100000)(hs:∀ p∈ps,Sz n (ax b p)/\Sz l (ax (!b) p))(hy:Sz m y)(hn:m+3*n+3*l+4<=8999)(hp:ps.Pairwise asc)(hlo:∀ p,ps[0]?=some p->ax b p<=y)(hhi:∀ p,ps.getLast?=some p->y<=ax b p):
  ∃ r:Rat,uN [.tup (ps.map dp),.int (axi b),dq y]=.ok (.v (dq r))/\∃(k:Nat)(q:Pt),ps[k]?=some q/\(∀ j p,j<k->ps[j]?=some p->ax b p<y)/\
   ((ax b q=y/\r=ax (!b) q)∨(0<k/\y<ax b q/\∃ p,ps[k-1]?=some p/\ax b p<y/\r=ax (!b) p+(y-ax b p) / (ax b q-ax b p)*(ax (!b) q-ax (!b) p))):=by
 obtain⟨k,e,hk,h1,h2⟩:=tO b h0 hl (fun p h=>(hs p h).1) hy (by omega) hp
 have hq:ps[k]?=some ps[k]:=Ql hk;have zq:=hs _ (Qi hq);generalize ps[k]=q at hq zq
 have hyq:y<=ax b q:=by
  rcases h2 with h2 | ⟨p,hp,h2⟩
  ·refine hhi q ?_
   rw[Q4,show ps.length-1=k by omega];exact hq
  ·rw[hq] at hp
   cases hp;exact h2
 unfold uN;symm;rw[e];symm;rw[eK (by omega) (by rw[Q2];exact hq)];symm;rw[zHD];symm;by_cases c:ax b q=y
 ·rw[decide_eq_true c]
  symm;rw[zFp];symm;exact⟨_,rfl,k,q,hq,h1,.inl ⟨c,rfl⟩⟩
 ·have c2:y<ax b q:=by grind
  have k0:0<k:=by
   rcases XV k with z | z
   ·subst z
    have:=hlo q hq
    grind
   ·exact z
  have hp1:ps[k-1]?=some ps[k-1]:=Ql _;have zp:=hs _ (Qi hp1);generalize ps[k-1]=p at hp1 zp;have lp:=h1 _ p (show k-1<k by omega) hp1
  have nz:ax b q-ax b p≠0:=by grind
  rw[decide_eq_false c];symm;rw[eK (by omega) (by rw[show((k:Int)-1).toNat=k-1 by omega];exact hp1)];symm;rw[zHD];symm;rw[eQ hy (zp.1) (by omega)];symm;rw[zHD];symm;rw[zHD];symm;rw[eQ (zq.1) (zp.1) (by omega)];symm;have z1:=hy.sub (zp.1);have z2:=(zq.1).sub (zp.1);have z3:=z1.div z2 nz;have z4:=(zq.2).sub (zp.2);rw[zHo z1 z2 nz (by omega)];symm;rw[zFp];symm;rw[zFp];symm;rw[zFp];symm;rw[eQ (zq.2) (zp.2) (by omega)];symm;rw[nM z3 z4 (by omega)];symm;rw[zBP (zp.2) (z3.mul z4) (by omega)];symm;exact⟨_,rfl,k,q,hq,h1,.inr ⟨k0,c2,p,hp1,lp,rfl⟩⟩
theorem zHj{ps:List Pt}{a b m:Nat}{x:Rat}{e:Pt}(hl:ps.length<=100000)(hs:∀ p∈ps,SzQ a b p)(hx:Sz m x)(hn:m+3*a+3*b+4<=8999)(hk:Ok ps)(he:ps.getLast?=some e)(h0:0<=x)(h1:x<=e.1):
  rT [.tup (ps.map dp),dq x]=.ok (.v (dq (bC ps x))):=by
 obtain⟨hh,hp⟩:=hk
 have hpos:0<ps.length:=by cases ps with
  | nil=>cases hh
  | cons a r=>exact Vv _
 have ze:SzQ a b e:=hs e (Yu he)
 obtain⟨r,e1,k,q,hq,hj,h⟩:=zPl false hpos hl (n:=a) (l:=b) hs hx hn hp (fun p hp=>by
  rw[<-Vk,hh] at hp;cases hp;exact h0) (fun p hp=>by rw[he] at hp;cases hp;exact h1)
 have er:r=bC ps x:=by
  rcases h with⟨c,rfl⟩ | ⟨k0,c,p,hp1,lp,rfl⟩
  ·have:q.1=x:=c
   rw[<-this];exact(bX hp hq).symm
  ·exact(cC hp hp1 (by rw[show k-1+1=k by omega];exact hq) (Qf lp) (Qf c)).symm
 subst er;unfold rT;symm;rw[zFN he];symm;rw[zGG hx ze.1 (by omega) h0 h1];symm;rw[show(0:Int)=axi false from rfl,e1];symm
theorem zFG{ps:List Pt}(hl:ps.length<=100000):oF [.tup (ps.map dp)]=.ok (.f ((ps.map Prod.fst).map dq)):=by
 unfold oF;symm;rw[zCC (h:=fun d=>match d with | .tup [x,_]=>x | _=>.non) (by rw[Qe];omega) ?_]
 ·symm
  rw[Qv,Qv];rfl
 ·intro d hd
  obtain⟨p,_,rfl⟩:=Qo.mp hd;symm;rfl
structure Mg (A B:List Rat) (i s:Nat) (C:List Rat):Prop where
 asc:C.Pairwise (· < ·)
 mem:∀ y,y∈C ↔ y∈A.take i∨y∈B.take s
 below:∀(j:Nat)(b:Rat),s<=j->B[j]?=some b->∀ c∈C,c<b
 under:∀(j:Nat)(a:Rat),i<=j->A[j]?=some a->∀ c∈C,c<a
 le:s<=B.length
 len:C.length<=i+s
theorem zFr{C:List Rat}{x:Rat}(h:C.Pairwise (· < ·))(hx:∀ c∈C,c<x):(C++[x]).Pairwise (· < ·):=by
 refine Yf.mpr ⟨h,Xv _ _,fun a ha b hb=>?_⟩
 rcases Qd.mp hb with rfl | hb
 ·exact hx a ha
 ·cases hb
theorem zDC{A:List Rat}(h:A.Pairwise (· < ·)){i j:Nat}{a b:Rat}(l:i<j)(ha:A[i]?=some a)(hb:A[j]?=some b):a<b:=by
 obtain⟨hi,rfl⟩:=QC.mp ha;obtain⟨hj,rfl⟩:=QC.mp hb;exact Xo.mp h i j hi hj l
theorem fY{A:List Rat}{i:Nat}{a y:Rat}(h:A[i]?=some a):y∈A.take (i+1) ↔ y∈A.take i∨y=a:=by
 rw[oE h,QI,Qu]
theorem zKG{A B:List Rat}{m:Nat}(ha:A.Pairwise (· < ·))(hb:B.Pairwise (· < ·))(la:A.length<=100000)(lb:B.length<=100000)(za:∀ x∈A,Sz m x)(zb:∀ x∈B,Sz m x)(hm:m<=40000):
  ∃ C:List Rat,rC [.lst (A.map dq),.lst (B.map dq)]=.ok (.f (C.map dq))/\C.Pairwise (· < ·)/\(∀ y,y∈C ↔ y∈A∨y∈B)/\C.length<=A.length+B.length:=by
 have ix:∀(k:Nat)(a:Rat),B[k]?=some a->oIx (.lst (B.map dq)) (.int (k:Int))=.ok (dq a):=by
  intro k a h;exact mY (by omega) (by simpa using h)
 unfold rC;symm
 refine kJ (Q:=fun r=>∃ C:List Rat,r.bind fin=.ok (.f (C.map dq))/\C.Pairwise (· < ·)/\(∀ y,y∈C ↔ y∈A∨y∈B)/\C.length<=A.length+B.length)
  (fun i ρ=>∃(s:Nat)(C:List Rat)(a:Sl),ρ=[.val (.lst (A.map dq)),.val (.lst (B.map dq)),.own (C.map dq),.val (.int (s:Int)),a]/\Mg A B i s C)
  ⟨0,[],_,rfl,⟨List.Pairwise.nil,by simp,by simp,by simp,by omega,by simp⟩⟩ ?_ ?_
 ·rintro i d ρ hd ⟨s,C,a,rfl,g⟩
  rw[Qr] at hd
  cases hq:A[i]? with
  | none=>rw[hq] at hd;cases hd
  | some x=>
   rw[hq] at hd;cases hd;have hi:i<A.length:=(QC.mp hq).1;have zx:=za x (Qi hq);symm
   refine zGh (fun ρ=>∃(s:Nat)(C:List Rat),ρ=[.val (.lst (A.map dq)),.val (.lst (B.map dq)),.own (C.map dq),.val (.int (s:Int)),.val (dq x)]/\Mg A B i s C)
    (fun ρ=>B.length-(slI 3 ρ).toNat)
    (fun r=>∃ ρ2,r.bind (zMC rJ)=.ok (.nx ρ2)/\∃(s:Nat)(C:List Rat)(a:Sl),ρ2=[.val (.lst (A.map dq)),.val (.lst (B.map dq)),.own (C.map dq),.val (.int (s:Int)),a]/\Mg A B (i+1) s C) ⟨s,C,rfl,g⟩ ?_
   rintro ρ ⟨s,C,rfl,g⟩
   have fin1:(s<B.length->∃ b,B[s]?=some b/\¬ b<x)->∃ ρ2,rJ [.val (.lst (A.map dq)),.val (.lst (B.map dq)),.own (C.map dq),.val (.int (s:Int)),.val (dq x)]=.ok (.nx ρ2)/\∃(s:Nat)(C:List Rat)(a:Sl),ρ2=[.val (.lst (A.map dq)),.val (.lst (B.map dq)),.own (C.map dq),.val (.int (s:Int)),a]/\Mg A B (i+1) s C:=by
    intro hs
    have base:∀ s':Nat,s'<=B.length->s'<=s+1->(∀ y,(y∈A.take i∨y∈B.take s)∨y=x ↔ y∈A.take (i+1)∨y∈B.take s')->(∀(j:Nat)(b:Rat),s'<=j->B[j]?=some b->x<b/\s<=j)->C.length+1<=i+1+s'->Mg A B (i+1) s' (C++[x]):=by
     intro s' h1 h1' h2 h3 h4;have cx:∀ c∈C,c<x:=g.under i x (Qg _) hq;refine⟨zFr g.asc cx,fun y=>?_,fun j b hj hb' c hc=>?_,fun j a hj ha' c hc=>?_,h1,by rw[Qm];exact h4⟩
     ·rw[QI,Qu,g.mem y]
      exact h2 y
     ·have h5:=h3 j b hj hb'
      rcases QI.mp hc with hc | hc
      ·exact g.below j b h5.2 hb' c hc
      ·rw[Qu.mp hc]
       exact h5.1
     ·have h5:=zDC ha (show i<j by omega) hq ha'
      rcases QI.mp hc with hc | hc
      ·have:=cx c hc
       grind
      ·rw[Qu.mp hc]
       exact h5
    have len:=g.len;have le:=g.le;symm;by_cases c1:s<B.length
    ·obtain⟨b,hb1,hb2⟩:=hs c1
     rw[decide_eq_true (by omega)];symm;rw[ix s b hb1];symm;by_cases c2:b=x
     ·rw[decide_eq_true c2]
      symm;rw[if_pos (by omega)];refine⟨_,rfl,s+1,C++[x],_,by rw[QH];rfl,base (s+1) (by omega) (by omega) (fun y=>?_) (fun j b' hj hb'=>?_) (by omega)⟩
      ·rw[fY hq,fY hb1,c2]
       constructor
       ·rintro ((h | h) | h)
        ·exact .inl (.inl h)
        ·exact .inr (.inl h)
        ·exact .inl (.inr h)
       ·rintro ((h | h) | (h | h))
        ·exact .inl (.inl h)
        ·exact .inr h
        ·exact .inl (.inr h)
        ·exact .inr h
      ·have:=zDC hb (show s<j by omega) hb1 hb'
       rw[c2] at this;exact⟨this,by omega⟩
     ·rw[decide_eq_false c2]
      symm;rw[if_pos (by omega)];refine⟨_,rfl,s,C++[x],_,by rw[QH];rfl,base s le (by omega) (fun y=>?_) (fun j b' hj hb'=>?_) (by omega)⟩
      ·rw[fY hq]
       grind
      ·rcases VO hj with l | l
       ·have:=zDC hb l hb1 hb'
        exact⟨by grind,hj⟩
       ·subst l
        rw[hb1] at hb';cases hb'
        exact⟨by grind,hj⟩
    ·rw[decide_eq_false (by omega)]
     symm;rw[if_pos (by omega)];refine⟨_,rfl,s,C++[x],_,by rw[QH];rfl,base s le (by omega) (fun y=>?_) (fun j b' hj hb'=>?_) (by omega)⟩
     ·rw[fY hq]
      grind
     ·have:=(QC.mp hb').1
      omega
   by_cases c1:s<B.length
   ·have hb1:B[s]?=some B[s]:=Ql c1
    have zb1:=zb _ (Qi hb1);generalize B[s]=b at hb1 zb1;by_cases c2:b<x
    ·refine .inr ⟨?_,?_⟩
     ·symm
      rw[decide_eq_true (by omega)];symm;rw[ix s b hb1];symm;rw[jT zb1 zx (by omega),decide_eq_true c2];symm
     ·have len:=g.len
      symm;rw[ix s b hb1];symm;rw[if_pos (by omega)];symm;refine⟨_,rfl,⟨s+1,C++[b],by rw[QH];rfl,⟨zFr g.asc (g.below s b (Qg _) hb1),fun y=>?_,fun j b' hj hb' c hc=>?_,fun j a' hj ha' c hc=>?_,c1,by rw[Qm,XD];omega⟩⟩,?_⟩
      ·rw[QI,Qu,g.mem y,fY hb1]
       grind
      ·have:=zDC hb (show s<j by omega) hb1 hb'
       rcases QI.mp hc with hc | hc
       ·exact g.below j b' (by omega) hb' c hc
       ·rw[Qu.mp hc]
        exact this
      ·rcases QI.mp hc with hc | hc
       ·exact g.under j a' hj ha' c hc
       ·rw[Qu.mp hc]
        rcases VO hj with l | l
        ·have:=zDC ha l hq ha'
         grind
        ·subst l
         rw[hq] at ha';cases ha'
         exact c2
      ·show B.length-(s+1)<B.length-s
       exact Nat.sub_lt_sub_left c1 (QT s)
    ·refine .inl ⟨?_,?_⟩
     ·symm
      rw[decide_eq_true (by omega)];symm;rw[ix s b hb1];symm;rw[jT zb1 zx (by omega),decide_eq_false c2];symm
     ·exact fin1 fun _=>⟨b,hb1,c2⟩
   ·refine .inl ⟨?_,?_⟩
    ·symm
     rw[decide_eq_false (by omega)];symm
    ·exact fin1 fun h=>absurd h c1
 ·rintro ρ' ⟨s,C,a,rfl,g⟩
  have len:=g.len;have le:=g.le;rw[Qe] at g len;symm;rw[zGs (by omega),<-List.map_drop,if_pos (by rw[Qe,QX];omega)];symm;refine⟨C++B.drop s,by rw[QH,Q2],?_,fun y=>?_,by rw[Qm,QX];omega⟩
  ·refine Yf.mpr ⟨g.asc,hb.sublist (List.drop_sublist _ _),fun c hc b hb'=>?_⟩
   obtain⟨j,hj⟩:=VP.mp hb';rw[Yh] at hj;exact g.below (s+j) b (by omega) hj c hc
  ·rw[QI,g.mem y,Ve]
   constructor
   ·rintro ((h | h) | h)
    ·exact .inl h
    ·exact .inr (Xa h)
    ·exact .inr (YD h)
   ·rintro (h | h)
    ·exact .inl (.inl h)
    ·rw[<-Yi s B,QI] at h
     rcases h with h | h
     ·exact .inl (.inr h)
     ·exact .inr h
theorem zKK{ps:List Pt}{a b m:Nat}{y:Rat}{e:Pt}(hl:ps.length<=100000)(hs:∀ p∈ps,SzQ a b p)(hy:Sz m y)(hn:m+3*a+3*b+4<=8999)(hk:Ok ps)(he:ps.getLast?=some e)(h0:0<=y)(h1:y<=e.2):
  ∃ r:Rat,uN [.tup (ps.map dp),.int 1,dq y]=.ok (.v (dq r))/\zEW ps y r:=by
 have hpos:0<ps.length:=by cases ps with
  | nil=>cases he
  | cons a r=>exact Vv _
 obtain⟨r,e1,k,q,hq,hj,h⟩:=zPl true hpos hl (n:=b) (l:=a) (fun p hp=>⟨(hs p hp).2,(hs p hp).1⟩) hy (by omega) hk.2 (fun p hp=>by rw[<-Vk,hk.1] at hp;cases hp;exact h0) (fun p hp=>by rw[he] at hp;cases hp;exact h1)
 exact⟨r,e1,k,q,hq,hj,h⟩
theorem zKR{ps qs:List Pt}{e f:Pt}(a b c d n m z:Nat)(hp:Ok ps)(hq:Ok qs)(he:ps.getLast?=some e)(hf:qs.getLast?=some f)(hL:e.1=f.2)(lp:ps.length<=40000)(lq:qs.length<=40000)
  (zp:∀ p∈ps,SzQ a b p) (zq:∀ p∈qs,SzQ c d p) (n1:a+3*c+3*d+4<=8999) (cm:c<=m) (n2:m+3*c+3*d+4<=8999) (n3:n+3*a+3*b+4<=8999) (n4:2*m+2*z+2<=8999)
  (hb:∀ p∈ps,∀ r,zEW qs p.1 r->Sz m r) (hv:∀ y,(∃ q∈qs,y=q.2)∨(∃ p∈ps,y=p.1)->Sz n y/\Sz z (bC ps y)):
  ∃ R:List Pt,hG [.tup (ps.map dp),.tup (qs.map dp)]=.ok (.v (.tup (R.map dp)))/\zPR R/\R.getLast?=some (f.1,e.2)/\R.length<=ps.length+qs.length/\(∀ x,0<=x->x<=f.1->bC R x=bC ps (bC qs x))/\(∀ r∈R,SzQ m z r/\((∃ q∈qs,r.1=q.1)∨∃ p∈ps,zEW qs p.1 r.1)):=by
 have bp:∀ p∈ps,0<=p.1/\p.1<=f.2:=fun p h=>by have:=gD hp he h;exact⟨this.1,by rw[<-hL];exact this.2.1⟩
 have up:∀ p∈ps,∃ r,uN [.tup (qs.map dp),.int 1,dq p.1]=.ok (.v (dq r))/\zEW qs p.1 r:=fun p h=>zKK (by omega) zq (zp p h).1 n1 hq hf (bp p h).1 (bp p h).2
 obtain⟨bf,hbf⟩:∃ bf:Pt->Rat,∀ p∈ps,uN [.tup (qs.map dp),.int 1,dq p.1]=.ok (.v (dq (bf p)))/\zEW qs p.1 (bf p):=
  ⟨fun p=>if h:p∈ps then Classical.choose (up p h) else 0,fun p h=>by simp only[dif_pos h];exact Xu (up p h)⟩
 have hval:∀ p∈ps,bC qs (bf p)=p.1/\0<=bf p/\bf p<=f.1:=fun p h=>(hbf p h).2.val hq hf
 have hasc:(ps.map bf).Pairwise (· < ·):=by
  refine VD.mpr (VZ ?_ hp.2)
  intro a b ha hb' hab;have h1:=hval a ha;have h2:=hval b hb';rcases (Vm:bf b<=bf a∨bf a<=bf b) with l | l
  ·have:=gY hq hf h2.2.1 l h1.2.2
   have:=hab.1
   grind
  ·have:bf a≠bf b:=by
    intro z;have:=hab.1
    rw[<-h1.1,<-h2.1,z] at this;grind
   grind
 have zb:∀ x∈ps.map bf,Sz m x:=fun x hx=>by
  obtain⟨p,h,rfl⟩:=Qo.mp hx;exact hb p h _ (hbf p h).2
 have zx:∀ x∈qs.map Prod.fst,Sz m x:=fun x hx=>by
  obtain⟨p,h,rfl⟩:=Qo.mp hx;exact(zq p h).1.mono cm
 obtain⟨C,h1,h2,h3,h4⟩:=zKG (zNa hq.2) hasc (by rw[Qe];omega) (by rw[Qe];omega) zx zb (by omega)
 rw[Qe,Qe] at h4;have zC:∀ t∈C,Sz m t:=fun t ht=>((h3 t).mp ht).elim (zx t) (zb t)
 have from':∀ t∈C,(∃ q∈qs,t=q.1)∨∃ p∈ps,t=bf p:=by
  intro t ht;rcases (h3 t).mp ht with h | h
  ·obtain⟨q,h5,rfl⟩:=Qo.mp h
   exact .inl ⟨q,h5,rfl⟩
  ·obtain⟨q,h5,rfl⟩:=Qo.mp h
   exact .inr ⟨q,h5,rfl⟩
 have J:Joints ps qs f C:=by
  refine⟨h2,fun q h=>(h3 _).mpr (.inl (Qo.mpr ⟨q,h,rfl⟩)),fun p h=>⟨bf p,(h3 _).mpr (.inr (Qo.mpr ⟨p,h,rfl⟩)),(hval p h).1⟩,fun t ht=>?_⟩
  rcases from' t ht with⟨q,h,rfl⟩ | ⟨p,h,rfl⟩
  ·have:=gD hq hf h
   exact⟨this.1,this.2.1⟩
  ·exact(hval p h).2
 have v2:∀ t∈C,(∃ q∈qs,bC qs t=q.2)∨∃ p∈ps,bC qs t=p.1:=by
  intro t ht;rcases from' t ht with⟨q,h,rfl⟩ | ⟨p,h,rfl⟩
  ·obtain⟨i,hi⟩:=VP.mp h
   exact .inl ⟨q,h,bX hq.2 hi⟩
  ·exact .inr ⟨p,h,(hval p h).1⟩
 have sz:∀ t∈C,Sz n (bC qs t)/\Sz z (bC ps (bC qs t)):=fun t ht=>hv _ (v2 t ht)
 obtain⟨ok,la⟩:=zGe hp hq he hf hL J;refine⟨lV (rL ps qs C),?_,lL ok,by rw[wV ok.2];exact la,QD (oD ok.2).length_le (by unfold rL;rw[Qe];omega),fun x h0 h1=>by rw[yQ ok.2,zIW hp hq he hf hL J h0 h1],fun r hr=>?_⟩
 rotate_left
 ·obtain⟨t,ht,rfl⟩:=Qo.mp ((oD ok.2).subset hr)
  exact⟨⟨zC t ht,(sz t ht).2⟩,(from' t ht).imp id fun ⟨p,h,e⟩=>⟨p,h,e ▸ (hbf p h).2⟩⟩
 unfold hG;symm;rw[zFN he];symm;rw[zLj hf];symm;rw[hL];symm;rw[zFG (by omega)];symm
 rw[Qv,fA (u:=dq ∘ Prod.fst) (g:=fun p=>dq (bf p)) (by omega) (fun p h=>by
  show aP uN _ [_,_,_,_,.val (dq p.1)]=_
  symm;rw[(hbf p h).1]
  symm)]
 symm;rw[zFG (by omega)];symm;rw[show(ps.map fun p=>dq (bf p))=(ps.map bf).map dq by rw[Qv];rfl,h1];symm
 rw[fA (u:=dq) (g:=fun t=>dp (t,bC ps (bC qs t))) (by omega) (fun t ht=>by
  have b2:=vP hq hf (J.bd t ht).1 (J.bd t ht).2;symm;rw[zHj (by omega) zq (zC t ht) n2 hq hf (J.bd t ht).1 (J.bd t ht).2];symm;rw[zHj (by omega) zp (sz t ht).1 n3 hp he b2.1 (by rw[hL];exact b2.2)]
  symm)]
 symm;rw[show(C.map fun t=>dp (t,bC ps (bC qs t)))=(rL ps qs C).map dp by unfold rL;rw[Qv];rfl];rw[qR (n:=m) (m:=z) (.inl rfl) (by unfold rL;rw[Qe];omega) ?_ n4 ok]
 ·symm
 ·intro p hp1
  obtain⟨t,ht,rfl⟩:=Qo.mp hp1;exact⟨zC t ht,(sz t ht).2⟩
def wys:List Str:=["row","back","even","lack","part","half"]
def wOK(w:Str)(ws:List Int)(m:Nat):Prop:=(w = "even" ∨ w = "lack")/\ws.length=m/\(∀ x∈ws,1<=x/\x<=10^6)∨¬ (w = "even" ∨ w = "lack")/\ws=[]
def IsC:Nat->D->Prop
 | 0,_=>False
 | n+1,d=>(∃ c:Int,d=.tup [.str "boat", .int c])∨∃(w:Str)(ws:List Int)(ks:List D),d=.tup [.str w,.tup (ws.map D.int),.tup ks]/\(w == "boat")=false/\0<ks.length/\ks.length<=100/\ws.length<=100/\(w∈wys/\wOK w ws ks.length)/\∀ k∈ks,IsC n k
def clm:Nat->D->List Int
 | 0,_=>[]
 | n+1,d=>match d with
  | .tup [_,.int c]=>[c]
  | .tup [_,_,.tup ks]=>ks.flatMap (clm n)
  | _=>[]
def dpt:Nat->D->Int
 | 0,_=>0
 | n+1,d=>match d with
  | .tup [_,_,.tup ks]=>1+mx0 (ks.map (dpt n))
  | _=>1
theorem sA{c:Int}:cD [.tup [.str "boat", .int c]]=.ok (.v (.bl true)):=by
 unfold cD;symm
theorem nY{w:Str}{a b:D}(h:(w == "boat")=false):cD [.tup [.str w,a,b]]=.ok (.v (.bl false)):=by
 unfold cD;symm;rw[h]
theorem oB{w:Str}{a b:D}(h:(w == "boat")=false):dC [.tup [.str w,a,b]]=.ok (.v b):=by
 unfold dC;symm;rw[nY h];symm
theorem zIm{ks:List D}{n i:Nat}:((ks.take i).flatMap (clm n)).length<=(ks.flatMap (clm n)).length:=by
 conv=>rhs;rw[<-Yi i ks,Vw,Qm]
 exact Nat.le_add_right _ _
theorem zKc{ks:List D}{n:Nat}{k:D}(h:k∈ks):(clm n k).length<=(ks.flatMap (clm n)).length:=by
 obtain⟨a,b,rfl⟩:=List.append_of_mem h;rw[Vw,Vn,Qm,Qm];omega
theorem wH:∀(n:Nat)(d:D),IsC n d->(clm n d).length<=1000->gN n [d]=.ok (.f ((clm n d).map D.int))
 | 0,d,h,_=>h.elim
 | n+1,d,h,hl=>by
  show lR (gN n) [d]=_
  unfold lR;symm;rcases h with⟨c,rfl⟩ | ⟨w,ws,ks,rfl,hw,k0,k1,w1,hy,hk⟩
  ·rw[sA]
   symm;rfl
  ·rw[nY hw]
   symm;rw[oB hw];symm;refine kJ (Q:=fun r=>r.bind fin=.ok (.f ((ks.flatMap (clm n)).map D.int))) (fun i ρ=>∃ a,ρ=[.val (.tup [.str w,.tup (ws.map D.int),.tup ks]),.own (((ks.take i).flatMap (clm n)).map D.int),a]) ⟨_,rfl⟩ ?_ ?_
   ·rintro i e ρ he ⟨a,rfl⟩
    have hm:=Qi he;have hl':(ks.flatMap (clm n)).length<=1000:=hl;have l1:=zKc (n:=n) hm;have l2:=zIm (ks:=ks) (n:=n) (i:=i);symm;rw[wH n e (hk e hm) (by omega)];symm;rw[if_pos (by omega)];refine⟨_,rfl,.val e,?_⟩
    rw[oE he,Vw,QH];simp[List.flatMap]
   ·rintro ρ' ⟨a,rfl⟩
    symm;rw[Ve]
theorem zA:∀(n:Nat)(d:D),IsC n d->dU n [d]=.ok (.v (.int (dpt n d)))
 | 0,d,h=>h.elim
 | n+1,d,h=>by
  show oC (dU n) [d]=_
  unfold oC;symm;rcases h with⟨c,rfl⟩ | ⟨w,ws,ks,rfl,hw,k0,k1,w1,hy,hk⟩
  ·symm
   rfl
  ·symm
   rw[hw];symm
   have e:=fA (u:=fun k=>k) (g:=fun k=>.int (dpt n k)) (l:=ks) (f:=aP (dU n) (aD (aG 1) aNil)) (ρ:=[.val (.tup [.str w,.tup (ws.map D.int),.tup ks])]) (by omega) (fun k hm=>by
    symm;rw[zA n k (hk k hm)]
    symm)
   rw[List.map_id'] at e;rw[e];symm;rw[zCb k0];symm;rfl
def dOK:Nat->D->Prop
 | 0,_=>False
 | n+1,d=>(∃ i,d=.int i)∨(∃ x,d=.str x)∨∃ ds,d=.tup ds/\ds.length<=1000/\∀ e∈ds,dOK n e
theorem zLf:∀ {n m:Nat} {d:D},dOK n d->n<=m->dOK m d
 | 0,_,_,h,_=>h.elim
 | n+1,0,_,_,l=>absurd l (by omega)
 | n+1,m+1,d,h,l=>by
  rcases h with h | h | ⟨ds,rfl,hl,he⟩
  ·exact .inl h
  ·exact .inr (.inl h)
  ·exact .inr (.inr ⟨ds,rfl,hl,fun e h=>zLf (he e h) (by omega)⟩)
theorem zHT:∀(n:Nat)(d:D),IsC n d->dOK (2*n+1) d
 | 0,d,h=>h.elim
 | n+1,d,h=>by
  rcases h with⟨c,rfl⟩ | ⟨w,ws,ks,rfl,hw,k0,k1,w1,hy,hk⟩
  ·refine .inr (.inr ⟨_,rfl,by simp,fun e he=>?_⟩)
   rcases Qd.mp he with rfl | he
   ·exact .inr (.inl ⟨_,rfl⟩)
   ·rw[Qu.mp he];exact .inl ⟨_,rfl⟩
  ·refine .inr (.inr ⟨_,rfl,by simp,fun e he=>?_⟩)
   rcases Qd.mp he with rfl | he
   ·exact .inr (.inl ⟨_,rfl⟩)
   ·rcases Qd.mp he with rfl | he
    ·refine .inr (.inr ⟨_,rfl,by rw[Qe];omega,fun x hx=>?_⟩)
     obtain⟨i,_,rfl⟩:=Qo.mp hx;exact .inl ⟨_,rfl⟩
    ·rw[Qu.mp he]
     exact .inr (.inr ⟨_,rfl,by omega,fun x hx=>zHT n x (hk x hx)⟩)
theorem zDO:∀(n:Nat)(d:D),dOK n d->noL d=true
 | 0,d,h=>h.elim
 | n+1,d,h=>by
  rcases h with⟨i,rfl⟩ | ⟨x,rfl⟩ | ⟨ds,rfl,hl,he⟩
  ·simp[noL]
  ·simp[noL]
  ·rw[noL]
   clear hl
   induction ds with
   | nil=>rfl
   | cons a r ih=>rw[noLs,zDO n a (he a Qb),ih fun e h=>he e (Qc _ h)];rfl
theorem qY:∀ {n m:Nat} {d:D},IsC n d->n<=m->IsC m d
 | 0,_,_,h,_=>h.elim
 | n+1,0,_,_,l=>absurd l (by omega)
 | n+1,m+1,d,h,l=>by
  rcases h with h | ⟨w,ws,ks,rfl,hw,k0,k1,w1,hy,hk⟩
  ·exact .inl h
  ·exact .inr ⟨w,ws,ks,rfl,hw,k0,k1,w1,hy,fun k h=>qY (hk k h) (by omega)⟩
theorem nX:∀ {n m:Nat} {d:D},IsC n d->n<=m->clm m d=clm n d
 | 0,_,_,h,_=>h.elim
 | n+1,0,_,_,l=>absurd l (by omega)
 | n+1,m+1,d,h,l=>by
  rcases h with⟨c,rfl⟩ | ⟨w,ws,ks,rfl,hw,k0,k1,w1,hy,hk⟩
  ·rfl
  ·show ks.flatMap (clm m)=ks.flatMap (clm n)
   rw[Xw,Xw];congr 1
   exact Q6 fun k h=>nX (hk k h) (by omega)
theorem zFA:∀ {n m:Nat} {d:D},IsC n d->n<=m->dpt m d=dpt n d
 | 0,_,_,h,_=>h.elim
 | n+1,0,_,_,l=>absurd l (by omega)
 | n+1,m+1,d,h,l=>by
  rcases h with⟨c,rfl⟩ | ⟨w,ws,ks,rfl,hw,k0,k1,w1,hy,hk⟩
  ·rfl
  ·show 1+mx0 (ks.map (dpt m))=1+mx0 (ks.map (dpt n))
   rw[Q6 fun k h=>zFA (hk k h) (by omega)]
theorem zPx:∀ {l:List Int} {b:Int},0<=b->(∀ x∈l,x<=b)->mx0 l<=b
 | [],b,h,_=>h
 | a::r,b,_,h=>by
  have key:∀(r:List Int)(a:Int),a<=b->(∀ x∈r,x<=b)->zBx a r<=b:=by
   intro r
   induction r with
   | nil=>intro a ha _;exact ha
   | cons c r ih=>
    intro a ha hr;rw[zBx];refine ih _ ?_ fun x hx=>hr x (Qc _ hx)
    split
    ·exact hr c Qb
    ·exact ha
  exact key r a (h a Qb) fun x hx=>h x (Qc _ hx)
theorem zId:∀ {l:List Int} {x:Int},x∈l->x<=mx0 l
 | [],_,h=>by cases h
 | a::r,x,h=>by
  have key:∀(r:List Int)(a:Int),a<=zBx a r/\∀ x∈r,x<=zBx a r:=by
   intro r
   induction r with
   | nil=>intro a;exact⟨V7 _,fun x h=>by cases h⟩
   | cons c r ih=>
    intro a;rw[zBx];have h1:=ih (if c > a then c else a);refine⟨Vj ?_ h1.1,fun x hx=>?_⟩
    ·split<;>omega
    ·rcases Qd.mp hx with rfl | hx
     ·refine Vj ?_ h1.1;split<;>omega
     ·exact h1.2 x hx
  rcases Qd.mp h with rfl | h
  ·exact(key r x).1
  ·exact(key r a).2 x h
theorem zIC:∀ {n:Nat} {d:D},IsC n d->1<=dpt n d/\dpt n d<=n
 | 0,_,h=>h.elim
 | n+1,d,h=>by
  rcases h with⟨c,rfl⟩ | ⟨w,ws,ks,rfl,hw,k0,k1,w1,hy,hk⟩
  ·exact⟨by show(1:Int)<=1;omega,by show(1:Int)<=_;omega⟩
  ·have h1:mx0 (ks.map (dpt n))<=n:=zPx (by omega) fun x hx=>by
    obtain⟨k,hk',rfl⟩:=Qo.mp hx;exact(zIC (hk k hk')).2
   have h2:0<=mx0 (ks.map (dpt n)):=by
    cases ks with
    | nil=>cases k0
    | cons k r=>exact Vj (by have:=(zIC (hk k Qb)).1;omega) (zId (x:=dpt n k) (by simp))
   exact⟨by show 1<=1+mx0 (ks.map (dpt n));omega,by show 1+mx0 (ks.map (dpt n))<=((n+1:Nat):Int);omega⟩
theorem zNj{w:Str}(h:w∈wys):(aW.lookup w).isSome=true/\(w == "boat")=false:=by
 simp only[wys,Qd,V6,or_false] at h;rcases h with rfl | rfl | rfl | rfl | rfl | rfl<;>decide
theorem zSb{w:Str}:oIn (.str w) (.tup [.str "even", .str "lack"])=.ok (.bl (decide (w = "even" ∨ w = "lack"))):=by
 show(if depS [D.str "even", D.str "lack"]<=50 then Res.ok (D.bl (((Str.ofString "even")==w) || (((Str.ofString "lack")==w) || false))) else .no)=_
 rw[if_pos (by decide),Bool.or_false];congr 2
 by_cases h1:w = "even"
 ·subst h1;decide
 ·by_cases h2:w = "lack"
  ·subst h2;decide
  ·rw[decide_eq_false (fun h=>h.elim h1 h2),beq_eq_false_iff_ne.mpr (Ne.symm h1),beq_eq_false_iff_ne.mpr (Ne.symm h2)];rfl
structure Pl (L:List (D×Int)) (boats:Int):Prop where
 each:∀ p∈L,1<=p.2/\p.2<=7/\IsC p.2.toNat p.1
 few:((L.flatMap fun p=>clm 7 p.1).length:Int)<=boats
 most:boats<=12
 rng:∀ c∈(L.flatMap fun p=>clm 7 p.1),0<=c/\c<=10^9
theorem zAF:∀ {l:List D},(∀ d∈l,noL d=true)->noLs l=true
 | [],_=>rfl
 | a::r,h=>by rw[noLs,h a Qb,zAF fun d hd=>h d (Qc _ hd)];rfl
theorem zMg:∀ {n:Nat} {d:D},dOK n d->dep d<=n
 | 0,_,h=>h.elim
 | n+1,d,h=>by
  rcases h with⟨i,rfl⟩ | ⟨x,rfl⟩ | ⟨ds,rfl,hl,he⟩
  ·simp[dep]
  ·simp[dep]
  ·rw[dep]
   clear hl
   have:depS ds<=n:=by
    induction ds with
    | nil=>simp[depS]
    | cons a r ih=>
     rw[depS];exact Xm.mpr ⟨zMg (he a Qb),ih fun e h=>he e (Qc _ h)⟩
   omega
theorem zIh{n:Nat}:∀ {ds:List D},(∀ d∈ds,dOK n d)->depS ds<=n
 | [],_=>by simp[depS]
 | a::r,h=>by rw[depS];exact Xm.mpr ⟨zMg (h a Qb),zIh fun e he=>h e (Qc _ he)⟩
theorem zMc{l:List D}(h:∀ d∈l,dOK 15 d):oEq (.lst l) (.lst [])=.ok (.bl (decide (l.length=0)))/\oNe (.lst l) (.lst [])=.ok (.bl (!decide (l.length=0))):=by
 have hd:dep (.lst l)<=50:=by rw[dep];have:=zIh h;omega
 have e:eqD (.lst l) (.lst [])=decide (l.length=0):=by cases l<;>simp[eqD,zHg]
 unfold oEq oNe;rw[if_pos hd,if_pos hd,e];exact⟨rfl,rfl⟩
theorem zOi{w:Str}(h:w∈wys):∃ v:Wy,v.s=w:=by
 unfold wys at h;rcases Qd.mp h with rfl | h
 ·exact⟨.row,rfl⟩
 rcases Qd.mp h with rfl | h
 ·exact⟨.back,rfl⟩
 rcases Qd.mp h with rfl | h
 ·exact⟨.even,rfl⟩
 rcases Qd.mp h with rfl | h
 ·exact⟨.lack,rfl⟩
 rcases Qd.mp h with rfl | h
 ·exact⟨.part,rfl⟩
 ·rw[Qu.mp h];exact⟨.half,rfl⟩
theorem zLz{v:Wy}{ws cs:List Int}(h:wOK v.s ws cs.length):v.due ws cs:=by
 have k:¬ (v.s = "even" ∨ v.s = "lack")->ws=[]:=fun hn=>by
  rcases h with⟨a,_⟩ | ⟨_,b⟩
  ·exact absurd a hn
  ·exact b
 have k2:(v.s = "even" ∨ v.s = "lack")->Wt ws cs:=fun hy=>by
  rcases h with⟨_,b,c⟩ | ⟨a,_⟩
  ·exact⟨b,fun x hx=>(c x hx).1,fun x hx=>(c x hx).2⟩
  ·exact absurd hy a
 cases v with
 | even=>exact k2 (.inl rfl)
 | lack=>exact k2 (.inr rfl)
 | row=>exact k (by decide)
 | back=>exact k (by decide)
 | part=>exact k (by decide)
 | half=>exact k (by decide)
def Gc(n:Nat)(d:D):Prop:=IsC n d/\(clm n d).length<=12/\∀ c∈clm n d,0<=c/\c<=10^9
theorem zLU:∀ {l:List Int},(∀ c∈l,0<=c/\c<=10^9)->0<=l.sum/\l.sum<=l.length*10^9
 | [],_=>by decide
 | c::r,h=>by
  have ih:=zLU fun x hx=>h x (Qc _ hx)
  have a:=h c Qb;rw[QF,Qn];have:((r.length+1:Nat):Int)*10^9=(r.length:Int)*10^9+10^9:=by rw[V8,V9];rfl
  omega
theorem Gc.sum{n:Nat}{d:D}(h:Gc n d):0<=(clm n d).sum/\(clm n d).sum<=12*10^9:=by
 have:=zLU h.2.2
 have:=h.2.1
 omega
theorem zEY{n:Nat}:∀ ks:List D,(ks.map fun k=>(clm n k).sum).sum=(ks.flatMap (clm n)).sum
 | []=>rfl
 | k::r=>by rw[Qs,QF,zEY r,Vn,Vt]
theorem zDH:∀ {n:Nat} {d:D},IsC n d->1<=(clm n d).length
 | 0,_,h=>h.elim
 | n+1,d,h=>by
  rcases h with⟨c,rfl⟩ | ⟨w,ws,ks,rfl,hw,k0,k1,w1,hy,hk⟩
  ·exact Qg 1
  ·cases ks with
   | nil=>simp at k0
   | cons k r=>
    have:=zDH (hk k Qb)
    show 1<=((k::r).flatMap (clm n)).length
    rw[Vn,Qm];omega
theorem zES{n:Nat}:∀ {ks:List D},(∀ k∈ks,IsC n k)->ks.length<=(ks.flatMap (clm n)).length
 | [],_=>QZ _
 | k::r,h=>by
  have a:=zDH (h k Qb);have b:=zES fun x hx=>h x (Qc _ hx)
  rw[Qn,Vn,Qm];omega
theorem zQJ{n:Nat}{ks:List D}{k:D}(hk:k∈ks){c:Int}(hc:c∈clm n k):c∈ks.flatMap (clm n):=List.mem_flatMap.mpr ⟨k,hk,hc⟩
theorem Gc.kid{n:Nat}{w:D}{a ks:List D}(h:Gc (n+1) (.tup [w,.tup a,.tup ks]))(hi:∀ k∈ks,IsC n k){k:D}(hk:k∈ks):Gc n k:=
 ⟨hi k hk,QD (zKc hk) h.2.1,fun c hc=>h.2.2 c (zQJ hk hc)⟩
def kcl(n:Nat)(ks:List D):List Int:=ks.map fun k=>(clm n k).sum
theorem kM(n:Nat)(ks:List D):(kcl n ks).length=ks.length:=Qe ..
theorem Gc.cl{n:Nat}{w:D}{a ks:List D}(h:Gc (n+1) (.tup [w,.tup a,.tup ks]))(hi:∀ k∈ks,IsC n k)(h0:0<ks.length):Cl (kcl n ks):=by
 have b:∀ c∈kcl n ks,0<=c/\c<=12*10^9:=fun c hc=>by
  obtain⟨k,hk,rfl⟩:=Qo.mp hc;exact(h.kid hi hk).sum
 have l:(ks.flatMap (clm n)).length<=12:=h.2.1;have:=zES hi
 exact⟨fun c hc=>(b c hc).1,fun c hc=>by have:=(b c hc).2;omega,by rw[kM];omega,by rw[kM];omega⟩
def ShL(P:D->Rat->List Rat->Prop):List D->(Nat->Rat)->Nat->List Rat->Prop
 | [],_,_,xs=>xs=[]
 | k::ks,f,i,xs=>∃ a b,xs=a++b/\P k (f i) a/\ShL P ks f (i+1) b
def Sh:Nat->D->Rat->List Rat->Prop
 | 0,_,_,_=>False
 | n+1,d,q,xs=>(∃ c:Int,d=.tup [.str "boat", .int c]/\xs=[q])∨∃(v:Wy)(ws:List Int)(ks:List D)(f:Nat->Rat),d=.tup [.str v.s,.tup (ws.map D.int),.tup ks]/\v.due ws (kcl n ks)/\Al 3000 ws (kcl n ks) q f v/\ShL (Sh n) ks f 0 xs
theorem zHF{P:D->Rat->List Rat->Prop}{n:Nat}{f:Nat->Rat}:∀ {ks:List D} {i:Nat} {xs:List Rat},(∀ k∈ks,∀ q xs,P k q xs->xs.length=(clm n k).length)->ShL P ks f i xs->xs.length=(ks.flatMap (clm n)).length
 | [],i,xs,_,h=>by rw[show xs=[] from h];rfl
 | k::r,i,xs,hp,h=>by
  obtain⟨a,b,rfl,ha,hb⟩:=h;rw[Qm,hp k Qb _ _ ha,zHF (fun x hx=>hp x (Qc _ hx)) hb,Vn,Qm]
theorem zLX:∀ {n:Nat} {d:D} {q:Rat} {xs:List Rat},Sh n d q xs->xs.length=(clm n d).length
 | 0,_,_,_,h=>h.elim
 | n+1,d,q,xs,h=>by
  rcases h with⟨c,rfl,rfl⟩ | ⟨v,ws,ks,f,rfl,hd,al,hs⟩
  ·rfl
  ·exact zHF (fun k _ q xs h=>zLX h) hs
theorem zFV{a:D}{l:List D}:iX [.tup (a::l)]=.ok (.v a):=by
 unfold iX;symm
theorem sW{a b:D}{l:List D}:dA [.tup (a::b::l)]=.ok (.v b):=by
 unfold dA;symm
theorem rS{n:Nat}{d:D}(h:IsC n d)(hn:n<=10)(hl:(clm n d).length<=1000):dS [d]=.ok (.v (.int (clm n d).sum)):=by
 have e:=nX h hn;unfold dS;symm;rw[wH 10 d (qY h hn) (by rw[e];exact hl)];symm;rw[e]
theorem tE{n:Nat}{w:Str}{a:D}{ks:List D}(hw:(w == "boat")=false)(hi:∀ k∈ks,IsC n k)(hn:n<=10)(hl:(ks.flatMap (clm n)).length<=1000):cY [.tup [.str w,a,.tup ks]]=.ok (.f ((kcl n ks).map D.int)):=by
 unfold cY;symm;rw[oB hw];symm
 rw[zCC (h:=fun k=>D.int (clm n k).sum) (by have:=zES hi;omega) (fun k hk=>by
  symm;rw[rS (hi k hk) hn (QD (zKc hk) hl)]
  symm)]
 symm;unfold kcl;rw[Qv];rfl
theorem zLL(cs:List Int):Sq (.lst (cs.map D.int)) cs:=.inl rfl
theorem yP:∀(n N m:Nat)(d:D)(q:Rat),Gc n d->n<=N->n<=9->0<=q->q<=((clm n d).sum:Rat)->(q.den:Int)<2^m->m+34*n<=2000->∃ xs,fL N [d,dq q]=.ok (.f (xs.map dq))/\Sh n d q xs
 | 0,_,_,_,_,h,_,_,_,_,_,_=>h.1.elim
 | n+1,0,_,_,_,_,hN,_,_,_,_,_=>by omega
 | n+1,N+1,m,d,q,g,hN,hn,q0,q1,qd,hm=>by
  rcases g.1 with⟨c,rfl⟩ | ⟨w,ws,ks,rfl,hw,k0,k1,w1,hy,hk⟩
  ·refine⟨[q],?_,.inl ⟨c,rfl,rfl⟩⟩
   show jB (fL N) _=_
   unfold jB;symm;rw[sA];symm
  ·obtain⟨v,rfl⟩:=zOi hy.1
   have cl:=g.cl hk k0;have l12:(ks.flatMap (clm n)).length<=12:=g.2.1;have hs:(kcl n ks).sum=(clm (n+1) (.tup [.str v.s,.tup (ws.map D.int),.tup ks])).sum:=zEY ks;have gs:=g.sum;have due:v.due ws (kcl n ks):=zLz (by rw[kM];exact hy.2)
   have sq:Sz (34+m) q:=(Dn.den q).sz (gE q) qd q0 q1 (by omega)
   have hl:Haul (34+m) q (kcl n ks).sum:=⟨q0,by rw[hs];exact q1,sq⟩
   obtain⟨f,ef,af⟩:=zOh (wd:=.tup (ws.map D.int)) (.inr rfl) (zLL (kcl n ks)) (by omega) due cl hl
   have df:=zOq due cl hl af;have hS:(kcl n ks).sum<2^34:=by rw[hs];omega
   obtain⟨E,e0,e1,e2⟩:=zPd due cl hS af (Dn.den q)
   have dk:∀ i,i<ks.length->((f i).den:Int)<2^(m+34):=fun i hi=>by
    have a:=(e2 i (by rw[kM];exact hi)).le (Xs (gE q) e0)
    have b:(q.den:Int)*E<2^m*2^34:=Int.mul_lt_mul qd (VL e1) e0 (VL (Xe (by decide)))
    rw[Yj];omega
   have loopOk:∀(js:List D)(i:Nat)(acc:List Rat)(s t:Sl),(∀ k∈js,k∈ks)->i+js.length=ks.length->ks.drop i=js->acc.length+(js.flatMap (clm n)).length<=12->∃ xs s' t',ShL (Sh n) js f i xs/\
     fS (zIY (oH (gName 4) (oH (gName 5) zHv))) (sU (fL N)) (gT js ((List.range' i js.length).map fun j=>dq (f j))) [.val (.tup [.str v.s,.tup (ws.map D.int),.tup ks]),.val (dq q),.val (.lst (((List.range (kcl n ks).length).map f).map dq)),.own (acc.map dq),s,t]=
      .ok (.nx [.val (.tup [.str v.s,.tup (ws.map D.int),.tup ks]),.val (dq q),.val (.lst (((List.range (kcl n ks).length).map f).map dq)),.own ((acc++xs).map dq),s',t']):=by
    intro js
    induction js with
    | nil=>intro i acc s t _ _ _ _;exact⟨[],s,t,rfl,by rw[QK];rfl⟩
    | cons k r ih=>
     intro i acc s t hm' hl' hd' ha;have hik:i<ks.length:=by rw[Qn] at hl';omega
     have ik:k∈ks:=hm' k Qb;have gk:=g.kid hk ik;have fk:=df.bd i (by rw[kM];exact hik)
     have ck:cR (kcl n ks) i=((clm n k).sum:Rat):=by
      unfold cR kcl
      have:ks[i]?=some k:=by
       have:=Yh (xs:=ks) (i:=i) (j:=0)
       rw[hd'] at this;simpa using this.symm
      rw[Qx,Qr,this];rfl
     obtain⟨xs,ex,sx⟩:=yP n N (m+34) k (f i) gk (by omega) (by omega) fk.1 (by rw[<-ck];exact fk.2.1) (dk i hik) (by omega)
     have lx:=zLX sx;rw[Vn,Qm] at ha;obtain⟨ys,s',t',sy,ey⟩:=ih (i+1) (acc++xs) (.val k) (.val (dq (f i))) (fun x hx=>hm' x (Qc _ hx)) (by rw[Qn] at hl';omega) (by rw[<-List.drop_drop,hd'];rfl) (by rw[Qm];omega)
     refine⟨xs++ys,s',t',⟨xs,ys,rfl,sx,sy⟩,?_⟩
     rw[Qn,List.range'_succ,Qs,show gT (k::r) (dq (f i)::(List.range' (i+1) r.length).map fun j=>dq (f j))=.tup [k,dq (f i)]::gT r ((List.range' (i+1) r.length).map fun j=>dq (f j)) from rfl]
     rw[eS (ρ1:=[.val (.tup [.str v.s,.tup (ws.map D.int),.tup ks]),.val (dq q),.val (.lst (((List.range (kcl n ks).length).map f).map dq)),.own (acc.map dq),.val k,.val (dq (f i))]) (ρ2:=[.val (.tup [.str v.s,.tup (ws.map D.int),.tup ks]),.val (dq q),.val (.lst (((List.range (kcl n ks).length).map f).map dq)),.own ((acc++xs).map dq),.val k,.val (dq (f i))]) (by symm) (by
      symm;rw[ex];symm
      rw[if_pos (by omega),QH]),ey,QY]
   obtain⟨xs,s',t',sx,ex⟩:=loopOk ks 0 [] .un .un (fun k h=>h) (by omega) rfl (by rw[Xf];omega)
   refine⟨xs,?_,.inr ⟨v,ws,ks,f,rfl,due,af.mono (by omega),sx⟩⟩
   show jB (fL N) _=_
   unfold jB;symm;rw[nY hw];symm;rw[zFV];symm;rw[sW];symm;rw[tE hw hk (by omega) (by omega)];symm;rw[ef];symm;rw[oB hw];symm;rw[mQ rfl rfl,show((List.range (kcl n ks).length).map f).map dq=(List.range' 0 ks.length).map fun j=>dq (f j) by rw[Qv,kM,Yk];rfl];symm;rw[show((List.range (kcl n ks).length).map f).map dq=(List.range' 0 ks.length).map fun j=>dq (f j) by rw[Qv,kM,Yk];rfl] at ex;rw[Vp] at ex;rw[ex];rfl
theorem zKE{n m:Nat}{d:D}{q:Rat}(g:Gc n d)(hn:n<=9)(q0:0<=q)(q1:q<=((clm n d).sum:Rat))(qd:(q.den:Int)<2^m)(hm:m+34*n<=2000):∃ xs,pS [d,dq q]=.ok (.f (xs.map dq))/\Sh n d q xs:=by
 have gs:=g.sum;obtain⟨xs,ex,sx⟩:=yP n 10 m d q g (by omega) hn q0 q1 qd hm
 refine⟨xs,?_,sx⟩
 have sq:Sz (34+m) q:=(Dn.den q).sz (gE q) qd q0 q1 (by omega)
 unfold pS;symm;rw[rS g.1 (by omega) (by have:=g.2.1;omega)];symm;rw[bU];symm;rw[mC (by omega) ⟨q0,q1,sq⟩ (by omega)];symm;rw[ex];symm
theorem kX{t b:Int}{n:Nat}(hb0:b≠0)(hn:b.natAbs<2^n)(h:n<=8999):cP [.int t,.int b]=.ok (.v (dq (Rat.divInt t b))):=by
 have hd:mH (dv t b)=true:=uG (zQn hb0) (Vq (zPC hb0) hn) h;unfold cP;symm
 refine zGh (fun ρ=>∃(x y:Int)(r:Sl),ρ=[.val (.int t),.val (.int b),.val (.int x),.val (.int y),r]/\0<=x/\0<=y/\Int.gcd x y=Int.gcd t b) (fun ρ=>(slI 3 ρ).toNat)
  (fun r=>(r.bind (zMC tJ)).bind fin=.ok (.v (dq (Rat.divInt t b)))) ⟨_,_,_,rfl,by omega,by omega,by simp[Int.gcd]⟩ ?_
 rintro ρ ⟨x,y,r,rfl,hx,hy,hg⟩
 by_cases c:y=0
 ·subst c
  have e2:x=(Int.gcd t b:Int):=by
   rw[Int.gcd_zero_right] at hg;omega
  subst e2;refine .inl ⟨rfl,?_⟩
  symm;by_cases c:b<0
  ·have e:0-(Int.gcd t b:Int)=dv t b:=by unfold dv;rw[if_pos c];omega
   rw[decide_eq_true c];symm;rw[e,oDiv_i hd];symm;rw[oDiv_i hd];symm;rw[yU hb0,yT hb0];rfl
  ·have e:(Int.gcd t b:Int)=dv t b:=by unfold dv;rw[if_neg c]
   rw[decide_eq_false c];symm;rw[e,oDiv_i hd];symm;rw[oDiv_i hd];symm;rw[yU hb0,yT hb0];rfl
 ·have hp:0<y:=by omega
  refine .inr ⟨?_,[.val (.int t),.val (.int b),.val (.int y),.val (.int (x % y)),.val (.int (x % y))],?_,⟨y,x % y,_,rfl,hy,QM _ c,(zFM hx hp).trans hg⟩,?_⟩
  ·symm
   rw[decide_eq_true hp]
  ·symm
   rw[oMod_i c,fmod_pos _ hp];symm
  ·have:=QN x hp
   show(x % y).toNat<y.toNat
   omega
theorem zHc{p q:Rat}{m n:Nat}(hp:Sz m p)(hq:Sz n q)(h:m+n<=8999):lA [dq p,dq q]=.ok (.v (dq (p+q))):=by
 unfold lA;symm;rw[oMul_i (bQ hp.1 hq.d (by omega))];symm;rw[oMul_i (bQ hq.1 hp.d (by omega))];symm;rw[oMul_i (bQ hp.d hq.d (by omega))];symm;rw[kX (Vi (eM p) (eM q)) (gF hp.d hq.d) h,zLH];symm
theorem fF{p q:Rat}{m n:Nat}(hp:Sz m p)(hq:Sz n q)(h:m+n<=8999):cA [dq p,dq q]=.ok (.v (dq (p-q))):=by
 unfold cA;symm;rw[oMul_i (bQ hp.1 hq.d (by omega))];symm;rw[oMul_i (bQ hq.1 hp.d (by omega))];symm;rw[oMul_i (bQ hp.d hq.d (by omega))];symm;rw[kX (Vi (eM p) (eM q)) (gF hp.d hq.d) h,zHN];symm
theorem jF{p q:Rat}{m n:Nat}(hp:Sz m p)(hq:Sz n q)(h:m+n<=8999):cT [dq p,dq q]=.ok (.v (dq (p*q))):=by
 unfold cT;symm;rw[oMul_i (bQ hp.1 hq.1 (by omega))];symm;rw[oMul_i (bQ hp.d hq.d (by omega))];symm;rw[kX (Vi (eM p) (eM q)) (gF hp.d hq.d) h,zJD];symm
theorem rW{p q:Rat}{m n:Nat}(hp:Sz m p)(hq:Sz n q)(h:m+n<=99999):fM [dq p,dq q]=.ok (.v (.bl (decide (p<q)))):=by
 unfold fM;symm;rw[oMul_i (bQ hp.1 hq.d (by omega))];symm;rw[oMul_i (bQ hq.1 hp.d (by omega))];symm;simp only[lt_iff]
theorem lC{q:Rat}{n:Nat}(hq:Sz n q)(h:n<=8999):cM [dq q]=.ok (.v (.bl true)):=by
 unfold cM;symm;show((((Res.ok [D.int q.num,D.int (q.den:Int)]).bind _).bind _).bind _)=_
 symm;refine zAW (Q:=fun r=>r.bind fin=.ok (.v (.bl true))) (fun ρ=>∃ a,ρ=[.val (dq q),a]) ⟨_,rfl⟩ ?_ ?_
 ·rintro d ρ hd ⟨a,rfl⟩
  have hi:∃ i,d=.int i:=by
   rcases Qd.mp hd with rfl | hd
   ·exact⟨_,rfl⟩
   ·rcases Qd.mp hd with rfl | hd
    ·exact⟨_,rfl⟩
    ·cases hd
  obtain⟨i,rfl⟩:=hi;symm;exact⟨_,rfl,_,rfl⟩
 ·rintro ρ' ⟨a,rfl⟩
  symm;rw[decide_eq_true (gE q)];symm;rw[kX (eM q) hq.d h,Vb];symm
theorem zDb{ps:List Pt}{n m:Nat}{x:Rat}{e:Pt}(hl:ps.length<=100000)(hs:∀ p∈ps,SzP n p)(hx:Sz m x)(hn:8*n+2*m<=8000)(hp:ps.Pairwise asc)(he:ps.getLast?=some e)(h0:∀ p,ps[0]?=some p->p.1<=x)(h1:x<=e.1):
  fI [.tup (ps.map dp),dq x]=.ok (.v (dq (bC ps x))):=by
 have hpos:0<ps.length:=by cases ps with
  | nil=>cases he
  | cons a r=>exact Vv _
 have hla:ps[ps.length-1]?=some e:=by rw[<-Q4];exact he
 unfold fI;symm;rw[wJ (by omega) (by omega)];symm;rw[Q2];refine zJe (Q:=fun r=>r.bind fin=.ok (.v (dq (bC ps x)))) (fun i ρ=>∃ a b c d,ρ=[.val (.tup (ps.map dp)),.val (dq x),a,b,c,d]/\∀ j p,j<i->ps[j]?=some p->p.1<x) ⟨_,_,_,_,rfl,fun j p h=>absurd h (by omega)⟩ ?_ ?_
 ·rintro i d ρ hd ⟨a,b,c,d',rfl,hj⟩
  obtain⟨hi,rfl⟩:=yO hd;have hq:ps[i]?=some ps[i]:=Ql hi;have zq:=hs _ (Qi hq);generalize ps[i]=q at hq zq;have hq':ps[(0+(i:Int)*1).toNat]?=some q:=by rw[show(0+(i:Int)*1).toNat=i by omega];exact hq
  symm;rw[eK (by omega) hq'];symm;by_cases c1:q.1=x
  ·rw[decide_eq_true c1]
   symm;rw[eK (by omega) hq'];symm;refine .inr ⟨_,rfl,?_⟩
   rw[<-c1,bX hp hq]
  ·rw[decide_eq_false c1]
   symm;by_cases c2:i=0
   ·subst c2
    have h00:=h0 q hq;rw[decide_eq_false (by omega)];symm;refine .inl ⟨_,rfl,_,_,_,_,rfl,fun j p hj hpj=>?_⟩
    have:j=0:=by omega
    subst this;rw[hq] at hpj;cases hpj;grind
   ·rw[decide_eq_true (by omega)]
    symm;rw[eK (by omega) hq'];symm;rw[rW hx zq.1 (by omega)];symm;have hp1:ps[i-1]?=some ps[i-1]:=Ql _;have zp:=hs _ (Qi hp1);generalize ps[i-1]=p at hp1 zp;have lp:=hj _ p (show i-1<i by omega) hp1
    have hp1':ps[(0+(i:Int)*1-1).toNat]?=some p:=by rw[show(0+(i:Int)*1-1).toNat=i-1 by omega];exact hp1
    by_cases c3:x<q.1
    ·have pos:0<q.1-p.1:=by grind
     have z2:=zq.1.sub zp.1;rw[decide_eq_true c3];symm;rw[eK (by omega) hq'];symm;rw[eK (by omega) hp1'];symm;rw[fF zq.1 zp.1 (by omega)];symm;rw[eK (by omega) hq'];symm;rw[eK (by omega) hp1'];symm;rw[fF zq.2 zp.2 (by omega)];symm;rw[eK (by omega) hp1'];symm;rw[fF hx zp.1 (by omega)];symm;have z1:=hx.sub zp.1;have z3:=z1.mul (z2.inv pos);rw[zOU pos,jF z1 (z2.inv pos) (by omega)];symm;rw[eK (by omega) hp1'];symm;rw[jF z3 (zq.2.sub zp.2) (by omega)];symm;rw[zHc zp.2 (z3.mul (zq.2.sub zp.2)) (by omega)];symm;refine .inr ⟨_,rfl,?_⟩
     rw[cC hp hp1 (by rw[show i-1+1=i by omega];exact hq) (Qf lp) (Qf c3)];rfl
    ·rw[decide_eq_false c3]
     symm;refine .inl ⟨_,rfl,_,_,_,_,rfl,fun j p' hj' hpj=>?_⟩
     rcases VO (show j<=i by omega) with l | l
     ·exact hj j p' l hpj
     ·subst l
      rw[hq] at hpj;cases hpj;grind
 ·rintro ρ' ⟨a,b,c,d,rfl,hj⟩
  rw[zMp] at hj;have:=hj _ e (show ps.length-1<ps.length by omega) hla
  exact absurd h1 (by grind)
theorem zDM{ps:List Pt}{n m:Nat}{x:Rat}{e:Pt}(hl:ps.length<=100000)(hs:∀ p∈ps,SzP n p)(hx:Sz m x)(hn:8*n+2*m<=8000)(hk:Ok ps)(he:ps.getLast?=some e)(h0:0<=x)(h1:x<=e.1):
  fI [.tup (ps.map dp),dq x]=.ok (.v (dq (bC ps x))):=
 zDb hl hs hx hn hk.2 he (fun p hp=>by rw[<-Vk,hk.1] at hp;cases hp;exact h0) h1
theorem zDp{ps:List Pt}(h0:0<ps.length){n:Nat}(hl:ps.length<=100000)(hs:∀ p∈ps,SzP n p)(hn:n<=2000)(v:D)(hv:v=.lst (ps.map dp)∨v=.tup (ps.map dp)):iA [v]=.ok (.v (.tup ((mD ps).map dp))):=by
 have f0:ps[0]?=some ps[0]:=Ql _;have ln:kU [v]=.ok (.int (ps.length:Int)):=by rcases hv with rfl | rfl<;>simp[bLen_l,bLen_t]
 have ix:∀(j:Int)(k:Nat)(a:Pt),j=(k:Int)->ps[k]?=some a->oIx v (.int j)=.ok (dp a):=by
  intro j k a hj ha;subst hj;rcases hv with rfl | rfl
  ·exact mY (by omega) (by simpa using ha)
  ·exact eK (by omega) (by simpa using ha)
 clear hv;unfold iA;symm;rw[ix 0 0 _ rfl f0];symm;rw[ln];symm;rw[zEa (by omega) (by omega) (by omega) (by omega)];symm
 refine kJ (Q:=fun r=>r.bind fin=.ok (.v (.tup ((mD ps).map dp))))
  (fun i ρ=>∃(t:List Pt)(p:Pt)(a b c d e f:Sl),ρ=[.val v,.own (t.map dp),a,b,c,d,e,f]/\ps[i]?=some p/\t++few p (ps.drop (i+1))=mD ps/\t.length<=i+1)
  ⟨[ps[0]],ps[0],_,_,_,_,_,_,rfl,f0,?_,Qg _⟩ ?_ ?_
 ·cases ps with
  | nil=>cases f0
  | cons a r=>rfl
 ·rintro i d ρ hd ⟨t,p,a,b,c,d2,e,f,rfl,hp,ht,hlen⟩
  obtain⟨hi,rfl⟩:=yO hd;have h1:ps[i+1]?=some ps[i+1]:=Ql _;have z0:=hs _ (Qi hp);have z1:=hs _ (Qi h1);rw[V3 (show i+1<ps.length by omega)] at ht;generalize ps[i+1]=q at h1 z1 ht
  have rest:∀(s:Bool)(b c d e:Sl),(∀ t',t'=(if s=true then t else t++[q])->t'++few q (ps.drop (i+1+1))=mD ps)->∃ ρ2,fV [.val v,.own (t.map dp),.val (.int (1+(i:Int)*1)),.val (.bl s),b,c,d,e]=.ok (.nx ρ2)/\
    ∃(t:List Pt)(p:Pt)(a b c d e f:Sl),ρ2=[.val v,.own (t.map dp),a,b,c,d,e,f]/\ps[i+1]?=some p/\t++few p (ps.drop (i+1+1))=mD ps/\t.length<=i+1+1:=by
   intro s b c d e hh
   cases s with
   | true=>
    symm;exact⟨_,rfl,t,q,_,_,_,_,_,_,rfl,h1,hh _ rfl,by omega⟩
   | false=>
    symm;rw[ix _ (i+1) _ (by omega) h1];symm;rw[if_pos (by omega)];exact⟨_,rfl,t++[q],q,_,_,_,_,_,_,by rw[QH];rfl,h1,hh _ rfl,by simp;omega⟩
  generalize hK:(fV:Sv)=K at rest;symm;rw[ln];symm;subst hK;generalize hK:(fV:Sv)=K at rest ⊢;by_cases c1:1+(i:Int)*1+1<(ps.length:Int)
  ·have h2:ps[i+2]?=some ps[i+2]:=Ql _
   have z2:=hs _ (Qi h2);rw[V3 (show i+1+1<ps.length by omega)] at ht;have hdr:=V3 (show i+1+1<ps.length by omega)
   generalize ps[i+2]=r at h2 z2 ht hdr;rw[decide_eq_true c1];symm;rw[ix _ (i+1) _ (by omega) h1];symm;rw[ix _ i _ (by omega) hp];symm;rw[fF z1.1 z0.1 (by omega)];symm;rw[ix _ (i+1) _ (by omega) h1];symm;rw[ix _ i _ (by omega) hp];symm;rw[fF z1.2 z0.2 (by omega)];symm;rw[ix _ (i+2) _ (by omega) h2];symm;rw[ix _ (i+1) _ (by omega) h1];symm;rw[fF z2.1 z1.1 (by omega)];symm;rw[ix _ (i+2) _ (by omega) h2];symm;rw[ix _ (i+1) _ (by omega) h1];symm;rw[fF z2.2 z1.2 (by omega)];symm;rw[jF (z1.2.sub z0.2) (z2.1.sub z1.1) (by omega)];symm;rw[jF (z2.2.sub z1.2) (z1.1.sub z0.1) (by omega)];symm;refine rest _ _ _ _ _ ?_
   rintro t' rfl
   rw[hdr];rw[few] at ht;unfold btw at ht;by_cases c2:decide ((q.2-p.2)*(r.1-q.1)=(r.2-q.2)*(q.1-p.1))=true
   ·rw[if_pos c2] at ht ⊢
    exact ht
   ·rw[if_neg c2] at ht ⊢
    rw[QY];exact ht
  ·rw[decide_eq_false c1]
   symm;refine rest _ _ _ _ _ ?_
   rintro t' rfl
   rw[VN (by omega)] at ht ⊢
   rw[few,QK];exact ht
 ·rintro ρ' ⟨t,p,a,b,c,d2,e,f,rfl,hp,ht,hlen⟩
  rw[zMp] at ht;rw[VN (by omega),few,QK] at ht;symm;rw[ht]
theorem zGv{ps:List Pt}{n:Nat}(h:zPR ps)(hl:ps.length<=100000)(hs:∀ p∈ps,SzP n p)(hn:n<=2000):iZ [.tup (ps.map dp)]=.ok (.v (.bl true)):=by
 have hpos:0<ps.length:=by
  have:=h.1.1
  cases ps with
  | nil=>cases this
  | cons a r=>exact Vv _
 have h0:ps[0]?=some (0,0):=by rw[<-Vk];exact h.1.1
 have ix:∀(j:Int)(k:Nat)(a:Pt),j=(k:Int)->ps[k]?=some a->oIx (.tup (ps.map dp)) (.int j)=.ok (dp a):=by
  intro j k a hj ha;subst hj;exact eK (by omega) (by simpa using ha)
 unfold iZ;symm;rw[decide_eq_false (by omega)];symm;rw[ix 0 0 _ rfl h0];symm;rw[show(.tup [.tup [.int 0,.int 1],.tup [.int 0,.int 1]]:D)=dp (0,0) from rfl];symm;refine zAW (Q:=fun r=>r.bind fin=.ok (.v (.bl true))) (fun ρ=>∃ a b,ρ=[.val (.tup (ps.map dp)),a,b]) ⟨_,_,rfl⟩ ?_ ?_
 ·rintro d ρ hd ⟨a,b,rfl⟩
  obtain⟨p,hp,rfl⟩:=Qo.mp hd;have zp:=hs p hp;symm;rw[lC zp.1 (by omega)];symm;rw[lC zp.2 (by omega)];symm;exact⟨_,rfl,_,_,rfl⟩
 ·rintro ρ' ⟨a,b,rfl⟩
  symm;rw[zEa (by omega) (by omega) (by omega) (by omega)];symm;refine kJ (Q:=fun r=>r.bind fin=.ok (.v (.bl true))) (fun i ρ=>∃ a b,ρ=[.val (.tup (ps.map dp)),a,b]) ⟨_,_,rfl⟩ ?_ ?_
  ·rintro i e ρ hd ⟨a,b,rfl⟩
   obtain⟨hi,rfl⟩:=yO hd;have h1:ps[i]?=some ps[i]:=Ql _;have h2:ps[i+1]?=some ps[i+1]:=Ql _;have z1:=hs _ (Qi h1);have z2:=hs _ (Qi h2);have za:=lW h.1.2 (QT i) h1 h2;generalize ps[i]=u at h1 z1 za;generalize ps[i+1]=v at h2 z2 za;symm;rw[ix _ i _ (by omega) h1];symm;rw[ix _ (i+1) _ (by omega) h2];symm;rw[rW z1.1 z2.1 (by omega),decide_eq_true za.1];symm;rw[ix _ (i+1) _ (by omega) h2];symm;rw[ix _ i _ (by omega) h1];symm;rw[rW z2.2 z1.2 (by omega),decide_eq_false (by rw[Q7];exact za.2)];symm;exact⟨_,rfl,_,_,rfl⟩
  ·rintro ρ' ⟨a,b,rfl⟩
   symm;rw[zDp hpos (by omega) hs hn _ (.inr rfl),zEr h.2];symm;rw[zIa (zNl _)];symm
theorem zRD{v v':Wy}(h:v.s=v'.s):v=v':=by cases v<;>cases v'<;>first | rfl | exact absurd h (by decide)
open Classical in
def wyS(w:Str):Wy:=if h:∃ v:Wy,v.s=w then Classical.choose h else .row
theorem zRK(v:Wy):wyS v.s=v:=by
 have h:∃ u:Wy,u.s=v.s:=⟨v,rfl⟩;unfold wyS;rw[dif_pos h];exact zRD (Xu h)
def zRc(l:List D):List Int:=l.map fun d=>match d with | .int i=>i | _=>0
theorem zLa(ws:List Int):zRc (ws.map D.int)=ws:=by
 unfold zRc;rw[Qv];exact List.map_id _
def SFL(g:D->Rat->List Rat)(f:Nat->Rat):List D->Nat->List Rat
 | [],_=>[]
 | k::ks,i=>g k (f i)++SFL g f ks (i+1)
def SF:Nat->D->Rat->List Rat
 | 0,_,_=>[]
 | n+1,d,q=>match d with
  | .tup [.str w,.tup a,.tup ks]=>SFL (SF n) (FF (wyS w) (zRc a) (kcl n ks) q) ks 0
  | _=>[q]
theorem zEy(n:Nat)(v:Wy)(ws:List Int)(ks:List D)(q:Rat):SF (n+1) (.tup [.str v.s,.tup (ws.map D.int),.tup ks]) q=SFL (SF n) (FF v ws (kcl n ks) q) ks 0:=by
 show SFL (SF n) (FF (wyS v.s) (zRc (ws.map D.int)) (kcl n ks) q) ks 0=_
 rw[zRK,zLa]
theorem zIA(g:D->Rat->List Rat)(f:Nat->Rat):∀(a b:List D)(i:Nat),SFL g f (a++b) i=SFL g f a i++SFL g f b (i+a.length)
 | [],b,i=>rfl
 | k::a,b,i=>by
  show g k (f i)++SFL g f (a++b) (i+1)=(g k (f i)++SFL g f a (i+1))++_
  rw[zIA g f a b (i+1),QY,Qn,show i+1+a.length=i+(a.length+1) by omega]
theorem zEb{n:Nat}{f:Nat->Rat}:∀ {ks:List D} {i:Nat},(∀ k∈ks,∀ q,(SF n k q).length=(clm n k).length)->(SFL (SF n) f ks i).length=(ks.flatMap (clm n)).length
 | [],i,_=>rfl
 | k::r,i,h=>by
  show(SF n k (f i)++SFL (SF n) f r (i+1)).length=_
  rw[Qm,h k Qb,zEb fun x hx=>h x (Qc _ hx),Vn,Qm]
theorem zJi:∀ {n:Nat} {d:D},IsC n d->∀ q:Rat,(SF n d q).length=(clm n d).length
 | 0,_,h,_=>h.elim
 | n+1,d,h,q=>by
  rcases h with⟨c,rfl⟩ | ⟨w,ws,ks,rfl,hw,k0,k1,w1,hy,hk⟩
  ·rfl
  ·obtain⟨v,rfl⟩:=zOi hy.1
   rw[zEy];exact zEb fun k hm q=>zJi (hk k hm) q
theorem zMv{n:Nat}{ks:List D}{j:Nat}{k:D}(h:ks[j]?=some k):j<(kcl n ks).length/\cR (kcl n ks) j=((clm n k).sum:Rat):=by
 have hj:=(QC.mp h).1;refine⟨by rw[kM];exact hj,?_⟩
 unfold cR kcl;rw[Qx,Qr,h];rfl
theorem zMj{P:D->Rat->List Rat->Prop}{n:Nat}{f g:Nat->Rat}:∀ {ks:List D} {i:Nat} {xs:List Rat},(∀ k∈ks,∀ q xs,P k q xs->0<=q->q<=((clm n k).sum:Rat)->xs=SF n k q)->(∀ j k,ks[j]?=some k->f (i+j)=g (i+j)/\0<=f (i+j)/\f (i+j)<=((clm n k).sum:Rat))->ShL P ks f i xs->xs=SFL (SF n) g ks i
 | [],i,xs,_,_,h=>h
 | k::r,i,xs,hp,hf,h=>by
  obtain⟨a,b,rfl,ha,hb⟩:=h;have f0:=hf 0 k rfl;rw[Nat.add_zero] at f0
  rw[hp k Qb _ _ ha f0.2.1 f0.2.2,zMj (fun x hx=>hp x (Qc _ hx)) (fun j k' hj=>by
   have:=hf (j+1) k' (by simpa using hj)
   rw[show i+1+j=i+(j+1) by omega];exact this) hb,f0.1]
  rfl
theorem zPY:∀ {n:Nat} {d:D} {q:Rat} {xs:List Rat},Gc n d->Sh n d q xs->0<=q->q<=((clm n d).sum:Rat)->xs=SF n d q
 | 0,_,_,_,g,_,_,_=>g.1.elim
 | n+1,d,q,xs,g,h,q0,q1=>by
  rcases h with⟨c,rfl,rfl⟩ | ⟨v,ws,ks,f,rfl,hd,al,hs⟩
  ·rfl
  ·rcases g.1 with⟨c,e⟩ | ⟨w,ws',ks',e,hw,k0,k1,w1,hy,hk⟩
   ·simp at e
   simp only[D.tup.injEq,List.cons.injEq,and_true] at e;obtain⟨e1,e2,rfl⟩:=e;have cl:=g.cl hk k0;have se:(kcl n ks).sum=(clm (n+1) (.tup [.str v.s,.tup (ws.map D.int),.tup ks])).sum:=zEY ks;have q1':q<=((kcl n ks).sum:Rat):=by rw[se];exact q1
   obtain⟨b1,b2⟩:=zQi hd cl q0 q1' al;rw[zEy];refine zMj (P:=Sh n) (fun k hm q xs h1 h2 h3=>zPY (g.kid hk hm) h1 h2 h3) (fun j k hj=>?_) hs
   obtain⟨j1,j2⟩:=zMv (n:=n) hj;rw[VB,<-j2];exact⟨zDw hd cl q0 q1' al j1,b1 j j1⟩
theorem zQU{ws cs:List Int}(h:Wt ws cs){t y:Rat}{i:Nat}(hi:i<cs.length)(e:cR ws i*t=y){B:Int}(hB:Dn B y):Dn (B*ws.getD i 0) (QQ ws cs t):=by
 obtain⟨F,W,e1,w0,w1,w2⟩:=wU (c:=cR cs) (w:=cR ws) (ci:=fun i=>cs.getD i 0) (wi:=fun i=>ws.getD i 0) (t:=t) (fun _=>rfl) (fun _=>rfl) (List.range cs.length) (fun j hj=>h.at (Qj.mp hj))
 obtain⟨k,hk⟩:=hB;refine⟨W*k+F*(B*ws.getD i 0),?_⟩
 have q:QQ ws cs t=(W:Rat)*t+(F:Rat):=e1;rw[q,QU,QO,QO,QO,<-hk,<-e];unfold cR;grind
theorem zJZ{cs:List Int}(hc:Cl cs){q y:Rat}(q0:0<=q)(q1:q<=(cs.sum:Rat)){i:Nat}(hi:i<cs.length)(e:FF .row [] cs q i=y)(y0:0<y)(y1:y<cR cs i){B:Int}(hB:Dn B y):Dn B q:=by
 rw[<-zDw (M:=0) (w:=.row) (ws:=[]) (f:=zFw cs q) rfl hc q0 q1 (fun i _=>rfl) hi] at e;have f:zFw cs q i=mn (ps0 (q-((0+(cs.take i).sum:Int):Rat))) (cR cs i):=zAN cs 0 q i hi;rw[f] at e
 have:q=y+((0+(cs.take i).sum:Int):Rat):=by
  unfold mn ps0 at e;grind
 rw[this];exact hB.add (Dn.int B _)
theorem zOB{ws cs:List Int}(h:Wt ws cs)(hc:Cl cs){t:Rat}(t0:0<=t)(q1:QQ ws cs t<=(cs.sum:Rat))(q0:0<=QQ ws cs t){i:Nat}(hi:i<cs.length):FF .even ws cs (QQ ws cs t) i=dY (cR cs) (cR ws) t i:=by
 obtain⟨M,hM⟩:=zJx cs.length (dY (cR cs) (cR ws) t);exact(zDw (M:=M) (w:=.even) h hc q0 q1 ⟨t,⟨t0,rfl,hM⟩,fun _ _=>rfl⟩ hi).symm
theorem zFZ{ws cs:List Int}(h:Wt ws cs)(hc:Cl cs){q:Rat}(q0:0<=q)(q1:q<=(cs.sum:Rat)):∃ t,0<=t/\QQ ws cs t=q/\∀ i,i<cs.length->FF .even ws cs q i=dY (cR cs) (cR ws) t i:=by
 obtain⟨M,t,tl,e⟩:=xY (w:=.even) h hc q0 q1;exact⟨t,tl.nn,tl.sum,e⟩
theorem zBC{ws cs:List Int}(h:Wt ws cs)(hc:Cl cs){q y:Rat}(q0:0<=q)(q1:q<=(cs.sum:Rat)){i:Nat}(hi:i<cs.length)(e:FF .even ws cs q i=y)(y1:y<cR cs i){B:Int}(hB:Dn B y):Dn (B*ws.getD i 0) q:=by
 obtain⟨t,t0,tq,ef⟩:=zFZ h hc q0 q1;rw[ef i hi] at e;rw[<-tq];refine zQU h hi ?_ hB
 unfold dY mn at e;grind
theorem vI(q:Rat):(q+q)*hf=q:=by rw[jO];grind
theorem zEz{cs:List Int}{i:Nat}(hi:i<cs.length):(ones cs).getD i 0=1:=by
 unfold ones;rw[Qx,Xl,if_pos hi];rfl
theorem zHW{cs:List Int}(hc:Cl cs){q y:Rat}(q0:0<=q)(q1:q+q<=(cs.sum:Rat)){i:Nat}(hi:i<cs.length)(e:FF .half [] cs q i=y)(y1:y+y<cR cs i){B:Int}(hB:Dn B y):Dn (B*2) q:=by
 rw[vF hc q0 q1 hi] at e
 have e':FF .even (ones cs) cs (q+q) i=y+y:=by
  have:=vI (FF .even (ones cs) cs (q+q) i)
  rw[<-e];grind
 have d:=zBC (fE cs) hc (by grind) q1 hi e' y1 (hB.add hB)
 rw[zEz hi,QW] at d;have:=zIw d
 rw[vI] at this;exact this
theorem zLW{cs:List Int}(hc:Cl cs){i:Nat}(hi:i<cs.length):cs.getD i 0<=cs.sum:=by
 have t:=zAi hc.nn hi (Qg _);rw[Ve] at t
 have:0<=(cs.take i).sum:=by
  have:∀ l:List Int,(∀ c∈l,0<=c)->0<=l.sum:=by
   intro l
   induction l with
   | nil=>intro _;decide
   | cons a l ih=>intro hl;rw[QF];have:=hl a Qb;have:=ih fun x hx=>hl x (Qc _ hx);omega
  exact this _ fun x hx=>hc.nn x (Xa hx)
 have:=t.1
 omega
theorem zQK{w:Wy}{ws cs:List Int}(hw:w.due ws cs)(hc:Cl cs)(hS:cs.sum<2^34){q y:Rat}(q0:0<=q)(q1:q<=(cs.sum:Rat)){i:Nat}(hi:i<cs.length)(e:FF w ws cs q i=y)(y0:0<y)(y1:y<cR cs i)(least:∀ t,0<=t->t<q->FF w ws cs t i<y){B:Int}(hB:Dn B y):∃ E:Int,0<E/\E<=2^34/\Dn (B*E) q:=by
 have dc:Dn B (cR cs i-y):=(Dn.int B _).sub hB;have S0:(0:Rat)<=(cs.sum:Rat):=by exact_mod_cast hc.sum.1
 have back:∀ {E:Int},Dn (B*E) ((cs.sum:Rat)-q)->Dn (B*E) q:=fun {E} d=>by
  have:=(Dn.int (B*E) cs.sum).sub d
  rw[show(cs.sum:Rat)-((cs.sum:Rat)-q)=q by grind] at this;exact this
 have con:=zMB hw hc q0 q1 hi;rw[e] at con
 cases w with
 | row=>
  have z:ws=[]:=hw;subst z;exact⟨1,by decide,by decide,by rw[QW];exact zJZ hc q0 q1 hi e y0 y1 hB⟩
 | back=>
  have z:ws=[]:=hw;subst z;refine⟨1,by decide,by decide,back ?_⟩
  rw[QW];exact zJZ hc (by grind) (by grind) hi con (by grind) (by grind) dc
 | even=>
  have wi:=Wt.at hw hi;exact⟨ws.getD i 0,by omega,by omega,zBC hw hc q0 q1 hi e y1 hB⟩
 | lack=>
  have wi:=Wt.at hw hi;exact⟨ws.getD i 0,by omega,by omega,back (zBC (ws:=ws) hw hc (by grind) (by grind) hi con (by grind) dc)⟩
 | part=>
  have z:ws=[]:=hw;subst z;rw[<-zDw (M:=0) (w:=.part) (ws:=[]) (f:=kR cs q) rfl hc q0 q1 (fun i _=>rfl) hi] at e;have p:=(jM (q:=q) hc hi).1;rw[e] at p
  have c0:0<cs.getD i 0:=by
   have:(0:Rat)<cR cs i:=by grind
   unfold cR at this;exact_mod_cast this
  have:=zLW hc hi
  obtain⟨k,hk⟩:=hB;refine⟨cs.getD i 0,c0,by omega,k*cs.sum,?_⟩
  unfold cR at p;rw[QO,QO,<-hk];grind
 | half=>
  have z:ws=[]:=hw;subst z;have W:=fE cs;refine⟨2,by decide,by decide,?_⟩
  by_cases h:q+q<=(cs.sum:Rat)
  ·by_cases l:y+y<cR cs i
   ·exact zHW hc q0 h hi e l hB
   ·have e0:=e
    rw[vF hc q0 h hi] at e;obtain⟨t,t0,tq,ef⟩:=zFZ W hc (q:=q+q) (by grind) h
    have g1:=ef i hi
    have g2:FF .even (ones cs) cs (q+q) i=y+y:=by
     have:=vI (FF .even (ones cs) cs (q+q) i)
     rw[<-e];grind
    rw[g2] at g1
    have yc:y+y=cR cs i:=by
     unfold dY mn at g1;grind
    have lt:lv (ones cs) cs i<=t:=by
     rcases (Vm:t<=lv (ones cs) cs i∨lv (ones cs) cs i<=t) with u | u
     ·have:=zGp W hi u
      rw[<-g1,yc,<-yX W hi] at this;have o:cR (ones cs) i=1:=by unfold cR;rw[zEz hi];rfl
      rw[o] at this;grind
     ·exact u
    have m1:=lM W lt;rw[tq] at m1;have l0:=zHi W hc hi
    have Q0:0<=QQ (ones cs) cs (lv (ones cs) cs i):=by
     have:=lM (cs:=cs) W l0
     have z:QQ (ones cs) cs 0=0:=by
      have:∀ j∈List.range cs.length,dY (cR cs) (cR (ones cs)) 0 j=0:=fun j hj=>by
       have:=zIO hc (Qj.mp hj)
       unfold dY mn;grind
      unfold QQ iY;rw[Q6 (g:=fun _=>(0:Rat)) this]
      induction (List.range cs.length) with
      | nil=>rfl
      | cons a r ih=>rw[Qs,QF,ih];grind
     grind
    have eq:QQ (ones cs) cs (lv (ones cs) cs i)=q+q:=by
     rcases Rat.le_iff_lt_or_eq.mp m1 with u | u
     ·exfalso
      have hh:QQ (ones cs) cs (lv (ones cs) cs i)*hf+QQ (ones cs) cs (lv (ones cs) cs i)*hf=QQ (ones cs) cs (lv (ones cs) cs i):=by rw[jO];grind
      have v:=least (QQ (ones cs) cs (lv (ones cs) cs i)*hf) (by rw[jO];grind) (by rw[jO];grind)
      rw[vF hc (by rw[jO];grind) (by rw[hh];grind) hi,hh,zOB W hc l0 (by grind) Q0 hi,zGJ W hi Qh,<-yc,vI] at v;grind
     ·exact u
    have d:=zQU (cs:=cs) W hi (yX W hi) (Dn.int B (cs.getD i 0));rw[eq,zEz hi,QW] at d;have:=zIw d
    rw[vI] at this;exact this
  ·have h':((cs.sum:Rat)-q)+((cs.sum:Rat)-q)<=(cs.sum:Rat):=by grind
   have con':FF .half [] cs ((cs.sum:Rat)-q) i=cR cs i-y:=con;by_cases l:(cR cs i-y)+(cR cs i-y)<cR cs i
   ·exact back (zHW hc (by grind) h' hi con' l dc)
   ·exfalso
    have hh:(cs.sum:Rat)*hf+(cs.sum:Rat)*hf=(cs.sum:Rat):=by rw[jO];grind
    have v:=least ((cs.sum:Rat)*hf) (by rw[jO];grind) (by rw[jO];grind)
    rw[vF hc (by rw[jO];grind) (by rw[hh];exact Qh) hi,hh,zDQ (w:=.even) W hc hi,jO] at v;grind
theorem zKe{x:Rat}{B E:Int}{m:Nat}(h:Dn (B*E) x)(b0:0<B)(e0:0<E)(hb:B<=2^m)(he:E<=2^34):(x.den:Int)<=2^(m+34):=by
 have a:=h.le (Xs b0 e0);have b:B*E<=2^m*2^34:=Int.mul_le_mul hb he (VL e0) (VL (Xe (by decide)))
 rw[Yj];omega
theorem jA(m:Nat):(1:Int)<=2^m:=by
 have:(0:Int)<2^m:=Xe (by decide)
 omega
theorem sS{a b:Nat}(h:a<=b):(2:Int)^a<=2^b:=by
 have e:(2:Int)^b=2^a*2^(b-a):=by rw[<-Yj,Nat.add_sub_cancel' h]
 have p:(0:Int)<2^a:=Xe (by decide)
 have:=Int.mul_le_mul_of_nonneg_left (jA (b-a)) (VL p)
 rw[e];omega
theorem zOl{w:Wy}{ws cs:List Int}{J:List Rat}(hw:w.due ws cs)(hc:Cl cs)(hS:cs.sum<2^34)(js:JS w ws cs J)(jd:Jd cs J){i:Nat}(hi:i<cs.length){y r:Rat}(u:zEW (wln w ws cs J i) y r){m:Nat}(hy:(y.den:Int)<=2^m):(r.den:Int)<=2^(m+34):=by
 obtain⟨ln,la,pts,val⟩:=zLF hw hc js hi;obtain⟨u1,u2,u3⟩:=u.val ln.1 la;have le:=fun t (t0:0<=t) (l:t<r)=>u.least ln.1 la t0 l
 obtain⟨k,q,hq,hj,h⟩:=u;have hqm:=Qi hq;rcases h with⟨e,rfl⟩ | ⟨k0,hlt,p,hp,hp2,e⟩
 ·obtain⟨B,b0,b1,d⟩:=jd.2 _ (pts q hqm).1
  have:=d.le b0
  have:=sS (show 34<=m+34 by omega)
  omega
 ·have bp:=gD ln.1 la (Qi hp)
  have bq:=gD ln.1 la hqm;have y0:0<y:=by have:=bp.2.2.1;grind
  have y1:y<cR cs i:=by have:=bq.2.2.2;grind
  rw[val r u2 u3] at u1
  obtain⟨E,e0,e1,d⟩:=zQK hw hc hS u2 u3 hi u1 y0 y1 (fun t t0 l=>by
   have:=le t t0 l
   rw[val t t0 (by grind)] at this
   exact this) (Dn.den y)
  exact zKe d (gE y) e0 hy e1
theorem zPG{w:Wy}{ws cs:List Int}(hw:w.due ws cs)(hc:Cl cs)(hS:cs.sum<2^34){q:Rat}(q0:0<=q)(q1:q<=(cs.sum:Rat)){i:Nat}(hi:i<cs.length){m:Nat}(hq:(q.den:Int)<=2^m):((FF w ws cs q i).den:Int)<=2^(m+34):=by
 obtain⟨M,al⟩:=xY hw hc q0 q1;obtain⟨E,e0,e1,e2⟩:=zPd hw hc hS al (Dn.den q);exact zKe (e2 i hi) (gE q) e0 hq (VL e1)
theorem zLu{P:Nat->Prop}:∀ n,P n->∃ k,P k/\∀ j,j<k->¬ P j:=by
 intro n
 induction n using Nat.strongRecOn with
 | ind n ih=>
  intro h;by_cases c:∃ j,j<n/\P j
  ·obtain⟨j,l,hj⟩:=c
   exact ih j l hj
  ·exact⟨n,h,fun j l hj=>c ⟨j,l,hj⟩⟩
theorem zQA{ps:List Pt}{e:Pt}{y:Rat}(h:Ok ps)(he:ps.getLast?=some e)(y0:0<=y)(y1:y<=e.2):∃ r,zEW ps y r:=by
 obtain⟨k,⟨q,hq,hy⟩,hm⟩:=zLu (P:=fun k=>∃ q:Pt,ps[k]?=some q/\y<=q.2) (ps.length-1) ⟨e,by rw[<-Q4];exact he,y1⟩
 have lt:∀(j:Nat)(p:Pt),j<k->ps[j]?=some p->p.2<y:=fun j p l hp=>Rat.not_le.mp fun z=>hm j l ⟨p,hp,z⟩
 by_cases c:q.2=y
 ·exact⟨q.1,k,q,hq,lt,.inl ⟨c,rfl⟩⟩
 ·have k0:0<k:=by
   rcases XV k with z | z
   ·subst z
    rw[<-Vk,h.1] at hq;cases hq
    have:(0:Rat)=y:=by
     have:y<=(0:Rat):=hy
     grind
    exact absurd this c
   ·exact z
  have kl:=(QC.mp hq).1;have hp:ps[k-1]?=some (ps[k-1]'(by omega)):=Ql _
  exact⟨_,k,q,hq,lt,.inr ⟨k0,by grind,_,hp,lt _ _ (by omega) hp,rfl⟩⟩
structure CL (S c:Int) (g:Rat->Rat) (m k:Nat) (l:List Pt):Prop where
 ln:zPR l
 la:l.getLast?=some ((S:Rat),(c:Rat))
 val:∀ x,0<=x->x<=(S:Rat)->bC l x=g x
 len:l.length<=k
 den:∀ p∈l,(p.1.den:Int)<=2^m
 yd:∀(x:Rat)(e:Nat),0<=x->x<=(S:Rat)->(x.den:Int)<=2^e->((g x).den:Int)<=2^(e+m)
 inv:∀(y r:Rat)(e:Nat),0<=y->y<=(c:Rat)->(y.den:Int)<=2^e->zEW l y r->(r.den:Int)<=2^(e+m)
theorem zDh{x:Rat}{S:Int}{m:Nat}(x0:0<=x)(x1:x<=(S:Rat))(hS:S<2^34)(h:(x.den:Int)<=2^m):Sz (35+m) x:=by
 have:=(Dn.den x).sz (a:=34) (b:=m+1) (gE x) (by rw[Int.pow_succ];have:=jA m;omega) x0 x1 hS
 exact this.mono (by omega)
theorem CL.pt{S c:Int}{g:Rat->Rat}{m k:Nat}{l:List Pt}(h:CL S c g m k l){p:Pt}(hp:p∈l):p.2=g p.1/\0<=p.1/\p.1<=(S:Rat)/\0<=p.2/\p.2<=(c:Rat):=by
 have b:=gD h.ln.1 h.la hp;obtain⟨i,hi⟩:=VP.mp hp;exact⟨by rw[<-h.val _ b.1 b.2.1];exact(bX h.ln.1.2 hi).symm,b⟩
theorem CL.sz{S c:Int}{g:Rat->Rat}{m k:Nat}{l:List Pt}(h:CL S c g m k l)(hS:S<2^34)(hc:c<2^34):∀ p∈l,SzQ (35+m) (35+2*m) p:=fun p hp=>by
 obtain⟨e,a,b,c0,d⟩:=h.pt hp;refine⟨zDh a b hS (h.den p hp),?_⟩
 have:=h.yd _ m a b (h.den p hp)
 rw[<-e] at this;exact(zDh c0 d hc this).mono (by omega)
def lnD(l:List Pt):D:=.tup (l.map dp)
theorem zID{w:Wy}{ws cs:List Int}{J:List Rat}(hw:w.due ws cs)(hc:Cl cs)(hS:cs.sum<2^34)(js:JS w ws cs J)(lJ:J.length<=30)(zJ:∀ x∈J,Sz 300 x/\∀ i,i<cs.length->Sz 670 (FF w ws cs x i))(jd:Jd cs J){i:Nat}(hi:i<cs.length){c:Int}{g:Rat->Rat}{m k:Nat}{l:List Pt}(hc2:c<2^34)(h:CL (cs.getD i 0) c g m k l)(hm:m<=272)(hk:k<=1000):
  ∃ R,hG [lnD l,lnD (wln w ws cs J i)]=.ok (.v (lnD R))/\CL cs.sum c (fun x=>g (FF w ws cs x i)) (m+34) (k+30) R:=by
 obtain⟨ln,la,pts,val⟩:=zLF hw hc js hi;have cs1:=zLW hc hi;have zl:=h.sz (by omega) hc2
 have bl:∀ p∈l,p.1<=cR cs i:=fun p hp=>(h.pt hp).2.2.1
 have wl:(wln w ws cs J i).length<=30:=by
  have:=(oD (zFX hw hc js hi).1.2).length_le
  unfold wln;unfold jpt at this ⊢
  rw[Qe] at this;omega
 have S0:(0:Rat)<=(cs.sum:Rat):=by exact_mod_cast hc.sum.1
 obtain⟨R,e,r1,r2,r3,r4,r5⟩:=zKR (ps:=l) (qs:=wln w ws cs J i) (35+m) (35+2*m) 300 670 670 400 1000 h.ln.1 ln.1 h.la la rfl (by have:=h.len;omega) (by omega) zl
  (fun p hp=>⟨(zJ _ (pts p hp).1).1,by rw[(pts p hp).2];exact(zJ _ (pts p hp).1).2 i hi⟩) (by omega) (by decide) (by omega) (by omega) (by omega)
  (fun p hp r u=>by
   have d:=zOl hw hc hS js jd hi u (h.den p hp);obtain⟨_,v2,v3⟩:=u.val ln.1 la
   exact(zDh v2 v3 hS d).mono (by omega))
  (fun y hy=>by
   have key:0<=y/\y<=cR cs i/\Sz 670 y:=by
    rcases hy with⟨q,hq,rfl⟩ | ⟨p,hp,rfl⟩
    ·have b:=gD ln.1 la hq
     exact⟨b.2.2.1,b.2.2.2,by rw[(pts q hq).2];exact(zJ _ (pts q hq).1).2 i hi⟩
    ·exact⟨(h.pt hp).2.1,bl p hp,(zl p hp).1.mono (by omega)⟩
   obtain⟨y0,y1,y2⟩:=key;refine⟨y2,?_⟩
   have v:=vP h.ln.1 h.la y0 y1;rw[h.val y y0 y1] at v ⊢
   have d:=h.yd y 670 y0 y1 (by have:=y2.2;omega)
   exact(zDh v.1 v.2 hc2 d).mono (by omega))
 refine⟨R,e,r1,r2,fun x x0 x1=>?_,by have:=h.len;omega,fun p hp=>?_,fun x e x0 x1 xd=>?_,fun y r e y0 y1 yd u=>?_⟩
 ·have b:=zKO hw hc x0 x1
  rw[r4 x x0 x1,val x x0 x1,h.val _ (b.1 i hi).1 (b.1 i hi).2]
 ·rcases (r5 p hp).2 with⟨q,hq,e⟩ | ⟨q,hq,u⟩
  ·obtain⟨B,b0,b1,d⟩:=jd.2 _ (pts q hq).1
   rw[e];have:=d.le b0
   have:=sS (show 34<=m+34 by omega)
   omega
  ·exact zOl hw hc hS js jd hi u (h.den q hq)
 ·have b:=zKO hw hc x0 x1
  have:=h.yd _ (e+34) (b.1 i hi).1 (b.1 i hi).2 (zPG hw hc hS x0 x1 hi xd)
  rw[show e+(m+34)=e+34+m by omega];exact this
 ·obtain⟨z,uz⟩:=zQA h.ln.1 h.la y0 y1
  have dz:=h.inv y z e y0 y1 yd uz;obtain⟨z1,z2,z3⟩:=uz.val h.ln.1 h.la;obtain⟨x,ux⟩:=zQA ln.1 la z2 z3;have dx:=zOl hw hc hS js jd hi ux dz;obtain⟨x1,x2,x3⟩:=ux.val ln.1 la
  have er:r=x:=u.uniq r1.1 r2 (by rw[r4 x x2 x3,x1,z1]) x2 fun t t0 l=>by
   have t1:t<=(cs.sum:Rat):=QB (Qf l) x3;rw[r4 t t0 t1];exact uz.least h.ln.1 h.la (vP ln.1 la t0 t1).1 (ux.least ln.1 la t0 l)
  rw[er,show e+(m+34)=e+m+34 by omega];exact dx
theorem zBl(ns:List Int)(k:Int)(h:0<=k):fZ [.lst (ns.map D.int),.int k]=.ok (.v (.int (ns.getD k.toNat 0))):=by
 unfold fZ;symm;by_cases c:k<(ns.length:Int)
 ·rw[decide_eq_true c]
  symm;have hk:k.toNat<ns.length:=by omega
  rw[mY h (Ql hk),Qx,Ql hk];rfl
 ·rw[decide_eq_false c]
  symm;rw[Qx,QA (by omega)];rfl
theorem zGH{c:Int}(c0:0<=c)(c1:c<2^34):∃ l,gP [.int c]=.ok (.v (lnD l))/\CL c c (fun x=>x) 34 32 l/\l=if c=0 then [(0,0)] else [(0,0),((c:Rat),(c:Rat))]:=by
 have yd:∀(x:Rat)(e:Nat),0<=x->x<=(c:Rat)->(x.den:Int)<=2^e->(x.den:Int)<=2^(e+34):=fun x e _ _ h=>Vj h (sS (by omega))
 have z0:SzQ 40 40 ((0:Rat),(0:Rat)):=by
  have:=(Dn.zero 1).sz (a:=34) (b:=1) (c:=0) (by decide) (by decide) Qh Qh (by decide)
  exact⟨this.mono (by decide),this.mono (by decide)⟩
 by_cases h:c=0
 ·subst h
  have ok:Ok [((0:Rat),(0:Rat))]:=⟨rfl,Xv _ _⟩;have le:lV [((0:Rat),(0:Rat))]=[((0:Rat),(0:Rat))]:=rfl;refine⟨[(0,0)],?_,⟨le ▸ lL ok,rfl,fun x x0 x1=>?_,by show 1<=32;decide,fun p hp=>?_,yd,fun y r e y0 y1 yd u=>?_⟩,by rw[if_pos rfl]⟩
  ·unfold gP
   symm;rw[show D.lst [dp (0,0)]=.lst ([((0:Rat),(0:Rat))].map dp) from rfl,qR (n:=40) (m:=40) (.inl rfl) (by show 1<=100000;decide) (fun p hp=>by rw[Qu.mp hp];exact z0) (by decide) ok];symm;rfl
  ·have:x=0:=by rw[show((0:Int):Rat)=0 from rfl] at x1;grind
   subst this;exact bX ok.2 (i:=0) rfl
  ·rw[Qu.mp hp]
   exact jA 34
  ·obtain⟨_,r0,r1⟩:=u.val ok (e:=(0,0)) rfl
   have:r=0:=by
    have r1':r<=(0:Rat):=r1;grind
   rw[this];exact jA _
 ·have cp:(0:Rat)<(c:Rat):=by exact_mod_cast (show 0<c by omega)
  have ok:Ok [((0:Rat),(0:Rat)),((c:Rat),(c:Rat))]:=⟨rfl,Qq.mpr ⟨fun p hp=>by rw[Qu.mp hp];exact⟨cp,Qf cp⟩,Xv _ _⟩⟩
  have le:lV [((0:Rat),(0:Rat)),((c:Rat),(c:Rat))]=[((0:Rat),(0:Rat)),((c:Rat),(c:Rat))]:=rfl
  have zc:Sz 40 (c:Rat):=by
   have:=(Dn.int 1 c).sz (a:=34) (b:=1) (by decide) (by decide) (Qf cp) Qh c1
   exact this.mono (by decide)
  have val:∀ x:Rat,0<=x->x<=(c:Rat)->bC [((0:Rat),(0:Rat)),((c:Rat),(c:Rat))] x=x:=fun x x0 x1=>by
   rw[cC ok.2 (i:=0) rfl rfl x0 x1];unfold itp;show(0:Rat)+(x-0) / ((c:Rat)-0)*((c:Rat)-0)=x
   have:(x-0) / ((c:Rat)-0)*((c:Rat)-0)=x-0:=Q8 (by grind)
   rw[this];grind
  refine⟨[(0,0),((c:Rat),(c:Rat))],?_,⟨le ▸ lL ok,rfl,fun x x0 x1=>?_,by show 2<=32;decide,fun p hp=>?_,yd,fun y r e y0 y1 yd u=>?_⟩,by rw[if_neg h]⟩
  ·unfold gP
   symm;rw[decide_eq_false h];symm;rw[bU];symm;rw[bU];symm
   rw[show D.lst [dp (0,0),dp ((c:Rat),(c:Rat))]=.lst ([((0:Rat),(0:Rat)),((c:Rat),(c:Rat))].map dp) from rfl,qR (n:=40) (m:=40) (.inl rfl) (by show 2<=100000;decide) (fun p hp=>by
    rcases Qd.mp hp with rfl | hp
    ·exact z0
    ·rw[Qu.mp hp];exact⟨zc,zc⟩) (by decide) ok]
   symm;rfl
  ·exact val x x0 x1
  ·rcases Qd.mp hp with rfl | hp
   ·exact jA 34
   ·rw[Qu.mp hp];exact jA 34
  ·obtain⟨r2,r0,r1⟩:=u.val ok (e:=((c:Rat),(c:Rat))) rfl
   rw[val r r0 r1] at r2;rw[r2];exact Vj yd (sS (by omega))
def LLg(S:Int)(A:List Int)(f:Rat->List Rat)(m k:Nat)(ls:List (List Pt)):Prop:=ls.length=A.length/\∀ j,j<A.length->CL S (A.getD j 0) (fun x=>(f x).getD j 0) m k (ls.getD j [])
theorem zJl{α:Type}{a b:List α}{j:Nat}{z:α}(h:j<a.length):(a++b).getD j z=a.getD j z:=by
 rw[Qx,Qx,QR h]
theorem zIz{α:Type}{a b:List α}{j:Nat}{z:α}(h:a.length<=j):(a++b).getD j z=b.getD (j-a.length) z:=by
 rw[Qx,Qx,QS h]
theorem zQs{S:Int}{A B:List Int}{f g:Rat->List Rat}{m k:Nat}{la lb:List (List Pt)}(ha:LLg S A f m k la)(hb:LLg S B g m k lb)(fl:∀ x,(f x).length=A.length):LLg S (A++B) (fun x=>f x++g x) m k (la++lb):=by
 refine⟨by rw[Qm,Qm,ha.1,hb.1],fun j hj=>?_⟩
 by_cases h:j<A.length
 ·have e:(fun x=>(f x++g x).getD j 0)=fun x=>(f x).getD j 0:=funext fun x=>zJl (by rw[fl];exact h)
  rw[e,zJl h,zJl (by rw[ha.1];exact h)];exact ha.2 j h
 ·have e:(fun x=>(f x++g x).getD j 0)=fun x=>(g x).getD (j-A.length) 0:=funext fun x=>by rw[zIz (by rw[fl];omega),fl]
  rw[e,zIz (by omega),zIz (by rw[ha.1];omega),ha.1];rw[Qm] at hj;exact hb.2 _ (by omega)
theorem zLx{α:Type}(l:List α)(a:α):l=(List.range l.length).map fun j=>l.getD j a:=by
 refine V5 fun j=>?_
 rw[Qr];by_cases h:j<l.length
 ·rw[Vd h,Option.map_some,Qx,Ql h]
  rfl
 ·rw[QA (by omega),QA (l:=List.range l.length) (by rw[Qy];omega)]
  rfl
theorem zIv{w:Wy}{ws cs:List Int}{J:List Rat}(hw:w.due ws cs)(hc:Cl cs)(hS:cs.sum<2^34)(js:JS w ws cs J)(lJ:J.length<=30)(zJ:∀ x∈J,Sz 300 x/\∀ i,i<cs.length->Sz 670 (FF w ws cs x i))(jd:Jd cs J){i:Nat}(hi:i<cs.length){A:List Int}{f:Rat->List Rat}{m k:Nat}{ls:List (List Pt)}(hA:∀ c∈A,c<2^34)(h:LLg (cs.getD i 0) A f m k ls)(hm:m<=272)(hk:k<=1000):
  ∃ bf:Nat->List Pt,(∀ j,j<A.length->hG [lnD (ls.getD j []),lnD (wln w ws cs J i)]=.ok (.v (lnD (bf j))))/\LLg cs.sum A (fun x=>f (FF w ws cs x i)) (m+34) (k+30) ((List.range A.length).map bf):=by
 have each:∀ j,j<A.length->∃ R,hG [lnD (ls.getD j []),lnD (wln w ws cs J i)]=.ok (.v (lnD R))/\CL cs.sum (A.getD j 0) (fun x=>(f (FF w ws cs x i)).getD j 0) (m+34) (k+30) R:=fun j hj=>
  zID hw hc hS js lJ zJ jd hi (hA _ (Qi (bP hj))) (h.2 j hj) hm hk
 let bf:Nat->List Pt:=fun j=>if hj:j<A.length then Classical.choose (each j hj) else []
 have hb:∀ j (hj:j<A.length),hG [lnD (ls.getD j []),lnD (wln w ws cs J i)]=.ok (.v (lnD (bf j)))/\CL cs.sum (A.getD j 0) (fun x=>(f (FF w ws cs x i)).getD j 0) (m+34) (k+30) (bf j):=fun j hj=>by
  have e:bf j=Classical.choose (each j hj):=dif_pos hj;rw[e];exact Xu (each j hj)
 refine⟨bf,fun j hj=>(hb j hj).1,by rw[Qe,Qy],fun j hj=>?_⟩
 have e:((List.range A.length).map bf).getD j []=bf j:=by rw[Qx,Qr,Vd hj];rfl
 rw[e];exact(hb j hj).2
theorem zH:∀(n N:Nat)(d:D),Gc n d->n<=N->n<=9->∃ Ls:List (List Pt),eO N [d]=.ok (.f (Ls.map lnD))/\LLg (clm n d).sum (clm n d) (SF n d) (34*n) (2+30*n) Ls
 | 0,_,_,h,_,_=>h.1.elim
 | n+1,0,_,_,hN,_=>by omega
 | n+1,N+1,d,g,hN,hn=>by
  rcases g.1 with⟨c,rfl⟩ | ⟨w,ws,ks,rfl,hw,k0,k1,w1,hy,hk⟩
  ·have c01:0<=c/\c<=10^9:=g.2.2 c Qb
   obtain⟨l,el,cl,_⟩:=zGH c01.1 (by omega)
   have se:(clm (n+1) (.tup [.str "boat", .int c])).sum=c:=by show([c]:List Int).sum=c;simp
   refine⟨[l],?_,rfl,fun j hj=>?_⟩
   ·show jC (eO N) _=_
    unfold jC;symm;rw[sA];symm;rw[rS g.1 (by omega) (by show 1<=1000;decide),se];symm;rw[el];symm
   ·have hj':j<1:=hj
    have j0:j=0:=by omega
    subst j0;rw[se];exact⟨cl.ln,cl.la,cl.val,QD cl.len (by omega),fun p hp=>Vj (cl.den p hp) (sS (by omega)),fun x e x0 x1 xd=>Vj (cl.yd x e x0 x1 xd) (sS (by omega)),fun y r e y0 y1 yd u=>Vj (cl.inv y r e y0 y1 yd u) (sS (by omega))⟩
  ·obtain⟨v,rfl⟩:=zOi hy.1
   have cl:=g.cl hk k0;have l12:(ks.flatMap (clm n)).length<=12:=g.2.1;have hs:(kcl n ks).sum=(clm (n+1) (.tup [.str v.s,.tup (ws.map D.int),.tup ks])).sum:=zEY ks;have gs:=g.sum;have due:v.due ws (kcl n ks):=zLz (by rw[kM];exact hy.2)
   have hS:(kcl n ks).sum<2^34:=by rw[hs];omega
   obtain⟨J,eJ,js,lJ,zJ,jd⟩:=zEK (wd:=.tup (ws.map D.int)) (.inr rfl) (zLL (kcl n ks)) due cl;have ew:((List.range (kcl n ks).length).map fun i=>D.tup ((wln v ws (kcl n ks) J i).map dp))=(List.range' 0 ks.length).map fun i=>lnD (wln v ws (kcl n ks) J i):=by rw[kM,Yk];rfl
   rw[ew] at eJ
   have loopOk:∀(js':List D)(i:Nat)(acc:List (List Pt))(s t:Sl),(∀ k∈js',k∈ks)->i+js'.length=ks.length->ks.drop i=js'->LLg (kcl n ks).sum ((ks.take i).flatMap (clm n)) (fun x=>SFL (SF n) (FF v ws (kcl n ks) x) (ks.take i) 0) (34*n+34) (2+30*n+30) acc->∃ xs s' t',LLg (kcl n ks).sum (ks.flatMap (clm n)) (fun x=>SFL (SF n) (FF v ws (kcl n ks) x) ks 0) (34*n+34) (2+30*n+30) xs/\
     fS (zIY (oH (gName 3) (oH (gName 4) zHv))) (tL (eO N)) (gT js' ((List.range' i js'.length).map fun i=>lnD (wln v ws (kcl n ks) J i))) [.val (.tup [.str v.s,.tup (ws.map D.int),.tup ks]),.val (.lst ((List.range' 0 ks.length).map fun i=>lnD (wln v ws (kcl n ks) J i))),.own (acc.map lnD),s,t]=
      .ok (.nx [.val (.tup [.str v.s,.tup (ws.map D.int),.tup ks]),.val (.lst ((List.range' 0 ks.length).map fun i=>lnD (wln v ws (kcl n ks) J i))),.own (xs.map lnD),s',t']):=by
    intro js'
    induction js' with
    | nil=>
     intro i acc s t _ h1 _ h2;rw[Xf,Nat.add_zero] at h1;rw[h1,Ve] at h2;exact⟨acc,s,t,h2,rfl⟩
    | cons k r ih=>
     intro i acc s t hm' hl' hd' ha;have hik:i<ks.length:=by rw[Qn] at hl';omega
     have ik:k∈ks:=hm' k Qb;have gk:=g.kid hk ik
     have ki:ks[i]?=some k:=by
      have:=Yh (xs:=ks) (i:=i) (j:=0)
      rw[hd'] at this;simpa using this.symm
     obtain⟨i1,i2⟩:=zMv (n:=n) ki
     have ci:(kcl n ks).getD i 0=(clm n k).sum:=by
      unfold kcl;rw[Qx,Qr,ki];rfl
     obtain⟨lk,ek,sk⟩:=zH n N k gk (by omega) (by omega)
     rw[<-ci] at sk;obtain⟨bf,b1,b2⟩:=zIv due cl hS js lJ zJ jd i1 (fun c hc=>by have:=(gk.2.2 c hc).2;omega) sk (by omega) (by omega)
     have tk:ks.take (i+1)=ks.take i++[k]:=by rw[List.take_add_one,ki];rfl
     have lt:(ks.take i).length=i:=by rw[VH];omega
     have nx:LLg (kcl n ks).sum ((ks.take (i+1)).flatMap (clm n)) (fun x=>SFL (SF n) (FF v ws (kcl n ks) x) (ks.take (i+1)) 0) (34*n+34) (2+30*n+30) (acc++(List.range (clm n k).length).map bf):=by
      have q:=zQs ha b2 fun x=>zEb fun k' hk' q=>zJi (hk k' (Xa hk')) q
      rw[tk,Vw,Vn,Ym,QK]
      have e:(fun x=>SFL (SF n) (FF v ws (kcl n ks) x) (ks.take i++[k]) 0)=fun x=>SFL (SF n) (FF v ws (kcl n ks) x) (ks.take i) 0++SF n k (FF v ws (kcl n ks) x i):=funext fun x=>by
       rw[zIA,lt,VB];show _++(SF n k (FF v ws (kcl n ks) x i)++[])=_
       rw[QK]
      rw[e];exact q
     obtain⟨xs,s',t',sy,ey⟩:=ih (i+1) (acc++(List.range (clm n k).length).map bf) (.val k) (.val (lnD (wln v ws (kcl n ks) J i))) (fun x hx=>hm' x (Qc _ hx)) (by rw[Qn] at hl';omega) (by rw[<-List.drop_drop,hd'];rfl) nx
     refine⟨xs,s',t',sy,?_⟩
     have la:=nx.1;have lf:((ks.take (i+1)).flatMap (clm n)).length<=(ks.flatMap (clm n)).length:=zIm;rw[Qm,Qe,Qy] at la;have lk':lk.length=(clm n k).length:=sk.1;rw[zLx lk [],lk',Qv] at ek;rw[Qn,List.range'_succ,Qs,show gT (k::r) (lnD (wln v ws (kcl n ks) J i)::(List.range' (i+1) r.length).map fun i=>lnD (wln v ws (kcl n ks) J i))=.tup [k,lnD (wln v ws (kcl n ks) J i)]::gT r ((List.range' (i+1) r.length).map fun i=>lnD (wln v ws (kcl n ks) J i)) from rfl]
     rw[eS (ρ1:=[.val (.tup [.str v.s,.tup (ws.map D.int),.tup ks]),.val (.lst ((List.range' 0 ks.length).map fun i=>lnD (wln v ws (kcl n ks) J i))),.own (acc.map lnD),.val k,.val (lnD (wln v ws (kcl n ks) J i))]) (ρ2:=[.val (.tup [.str v.s,.tup (ws.map D.int),.tup ks]),.val (.lst ((List.range' 0 ks.length).map fun i=>lnD (wln v ws (kcl n ks) J i))),.own ((acc++(List.range (clm n k).length).map bf).map lnD),.val k,.val (lnD (wln v ws (kcl n ks) J i))]) (by symm) (by
      symm;rw[ek];symm
      rw[fA (u:=lnD ∘ fun j=>lk.getD j []) (g:=fun j=>lnD (bf j)) (by rw[Qy];omega) (fun j hj=>by
       symm;rw[show(lnD ∘ fun j=>lk.getD j []) j=lnD (lk.getD j []) from rfl,b1 j (Qj.mp hj)]
       symm)]
      symm;rw[if_pos (by simp only[Qe,Qy];omega),QH,Qv]
      rfl),ey]
   obtain⟨xs,s',t',sx,ex⟩:=loopOk ks 0 [] .un .un (fun k h=>h) (by omega) rfl ⟨rfl,fun j hj=>absurd hj (Nat.not_lt_zero j)⟩
   refine⟨xs,?_,?_⟩
   ·show jC (eO N) _=_
    unfold jC;symm;rw[nY hw];symm;rw[zFV];symm;rw[sW];symm;rw[tE hw hk (by omega) (by omega)];symm;rw[eJ];symm;rw[oB hw];symm;rw[mQ rfl rfl];symm;rw[Vp] at ex;rw[ex];rfl
   ·have e:(fun x=>SFL (SF n) (FF v ws (kcl n ks) x) ks 0)=SF (n+1) (.tup [.str v.s,.tup (ws.map D.int),.tup ks]):=funext fun x=>(zEy n v ws ks x).symm
    rw[e,hs] at sx;exact sx
theorem vN{ds:List D}{a:Int}(h:a<0):gA ds (some a) none=ds.drop (ds.length-(-a).toNat):=by
 unfold gA cut;simp only[if_neg (show ¬ 0<=a by omega)];rw[show((ds.length:Int)+a).toNat=ds.length-(-a).toNat by omega];exact VY (by rw[QX];omega)
theorem zJj{ds:List D}{a:Int}(h:a<0):gA ds none (some a)=ds.take (ds.length-(-a).toNat):=by
 unfold gA cut;simp only[if_neg (show ¬ 0<=a by omega),VW,Nat.sub_zero];rw[show((ds.length:Int)+a).toNat=ds.length-(-a).toNat by omega]
theorem vC:∀(n:Nat)(d:D),IsC n d->(clm n d).length<=1000->gJ n [d]=.ok (.f ((clm n d).map D.int))
 | 0,d,h,_=>h.elim
 | n+1,d,h,hl=>by
  show lF (gJ n) [d]=_
  unfold lF;rcases h with⟨c,rfl⟩ | ⟨w,ws,ks,rfl,hw,k0,k1,w1,hy,hk⟩
  ·symm
   rfl
  ·symm
   rw[hw];symm;refine kJ (Q:=fun r=>r.bind fin=.ok (.f ((ks.flatMap (clm n)).map D.int))) (fun i ρ=>∃ a,ρ=[.val (.tup [.str w,.tup (ws.map D.int),.tup ks]),.own (((ks.take i).flatMap (clm n)).map D.int),a]) ⟨_,rfl⟩ ?_ ?_
   ·rintro i e ρ he ⟨a,rfl⟩
    have hm:=Qi he;have hl':(ks.flatMap (clm n)).length<=1000:=hl;have h1:=vC n e (hk e hm) (QD (zKc hm) hl');have h2:((ks.take i).flatMap (clm n)).length<=(ks.flatMap (clm n)).length:=zIm;have h3:=zKc (n:=n) hm;symm;rw[h1];symm;rw[if_pos (by omega)];refine⟨_,rfl,.val e,?_⟩
    rw[oE he,Vw,QH,Vn,Ym,QK]
   ·rintro ρ' ⟨a,rfl⟩
    rw[Ve];symm
theorem zHB:∀ {n m:Nat} {d:D},IsC n d->dpt n d<=(m:Int)->IsC m d
 | 0,_,_,h,_=>h.elim
 | n+1,0,d,h,l=>by have:=(zIC h).1;omega
 | n+1,m+1,d,h,l=>by
  rcases h with⟨c,rfl⟩ | ⟨w,ws,ks,rfl,hw,k0,k1,w1,hy,hk⟩
  ·exact .inl ⟨c,rfl⟩
  ·have l':1+mx0 (ks.map (dpt n))<=((m+1:Nat):Int):=l
   exact .inr ⟨w,ws,ks,rfl,hw,k0,k1,w1,hy,fun k hm=>zHB (hk k hm) (by
    have:=zId (l:=ks.map (dpt n)) (Qo.mpr ⟨k,hm,rfl⟩)
    omega)⟩
theorem zHq(c k:Int)(hk:0<=k)(hk2:k<=1000):∃ x:Int,nD [.int c,.int k]=.ok (.v (.int x))/\0<=x/\x<2147483647:=by
 refine⟨_,?_,QM (c*48271+7919*k+23) (b:=2147483647) (by decide),QN _ (by decide)⟩
 unfold nD;symm
abbrev zSP:D:=.lst [.str "row", .str "back", .str "even", .str "lack", .str "part", .str "half"]
theorem zNe(k:Int)(h0:0<=k)(h1:k<6):∃ w∈wys,oIx zSP (.int k)=.ok (.str w):=by
 have hk:k=0∨k=1∨k=2∨k=3∨k=4∨k=5:=by omega
 rcases hk with rfl | rfl | rfl | rfl | rfl | rfl
 all_goals exact⟨_,by simp[wys],rfl⟩
theorem zLl{x:Int}{m:Nat}(h:x.natAbs<2^m){a:Int}(ha:a.natAbs<2^30):(x+a).natAbs<2^(m+31):=by
 have e:(2:Nat)^(m+31)=2^m*2^31:=Nat.pow_add ..;have p:1<=(2:Nat)^m:=Nat.one_le_two_pow;have:2^m*2^30+2^m*2^30=(2:Nat)^m*2^31:=by rw[<-Nat.mul_add]
 have q:2^m*1<=(2:Nat)^m*2^30:=Nat.mul_le_mul_left _ (by decide)
 have r:1*2^30<=(2:Nat)^m*2^30:=Nat.mul_le_mul_right _ p;rw[e];omega
theorem zG{ks:List D}{mix plan:Int}{m:Nat}(hm:mix.natAbs<2^m)(m20:m<=1048576)(k1:ks.length<=100):∃(w:Str)(ws:List Int),eP [.lst ks,.int mix,.int plan]=.ok (.v (.tup [.str w,.tup (ws.map D.int),.tup ks]))/\w∈wys/\wOK w ws ks.length/\ws.length<=100:=by
 have q6:0<=mix / 7 % 6/\mix / 7 % 6<6:=⟨QM _ (by decide),QN _ (by decide)⟩
 obtain⟨w,hw,ew⟩:=zNe _ q6.1 q6.2
 have key:∀ r,eP [.lst ks,.int mix,.int plan]=r->∃(w:Str)(ws:List Int),r=.ok (.v (.tup [.str w,.tup (ws.map D.int),.tup ks]))/\w∈wys/\wOK w ws ks.length/\ws.length<=100:=by
  intro r hr;rw[<-hr];unfold eP;symm;rw[ew];symm;rw[zSb];symm;by_cases c:w = "even" ∨ w = "lack"
  ·rw[decide_eq_true c]
   symm
   have g3:0<=plan / 3 % 3 / 2/\plan / 3 % 3 / 2<2:=by
    have a:=QM (plan / 3) (b:=3) (by decide)
    have b:=QN (plan / 3) (b:=3) (by decide)
    omega
   obtain⟨gr,hg,eg⟩:∃ g:Int,(1<=g/\g<=10^6)/\oIx (.lst [.int 5,.int (10^6)]) (.int (plan / 3 % 3 / 2))=.ok (.int g):=by
    generalize plan / 3 % 3 / 2=k at g3;have hk:k=0∨k=1:=by omega
    rcases hk with rfl | rfl
    ·exact⟨5,by omega,rfl⟩
    ·exact⟨10^6,by omega,rfl⟩
   rw[oPow_i (by decide)];symm;rw[eg];symm;rw[wJ (by omega) (by omega)];symm;rw[show rng 0 ((ks.length:Int)).toNat 1=(List.range ks.length).map fun j:Nat=>D.int (j:Int) by unfold rng;rw[Q2];exact Q6 fun j _=>by rw[show(0:Int)+(j:Int)*1=(j:Int) by omega]]
   rw[fA (u:=fun j:Nat=>D.int (j:Int)) (g:=fun j:Nat=>D.int (1+(mix+40692*(j:Int)+1)^2 % 998244353 / 7 % gr)) (by rw[Qy];omega) (fun j hj=>by
    have hj':=Qj.mp hj
    have ab:(mix+40692*(j:Int)+1).natAbs<2^(m+31):=by
     rw[Yc];exact zLl hm (by omega)
    symm;rw[oPow_i (zLq ab (by decide) (by omega))];symm;rw[oMod_i (by omega),zBD _ (by omega)]
    symm)]
   symm;refine⟨w,(List.range ks.length).map fun j:Nat=>1+(mix+40692*(j:Int)+1)^2 % 998244353 / 7 % gr,?_,hw,.inl ⟨c,by rw[Qe,Qy],fun x hx=>?_⟩,by rw[Qe,Qy];exact k1⟩
   ·rw[Qv]
    rfl
   ·obtain⟨j,_,rfl⟩:=Qo.mp hx
    have a:=QM ((mix+40692*(j:Int)+1)^2 % 998244353 / 7) (b:=gr) (by omega)
    have b:=QN ((mix+40692*(j:Int)+1)^2 % 998244353 / 7) (b:=gr) (by omega)
    omega
  ·rw[decide_eq_false c]
   symm;exact⟨w,[],rfl,hw,.inr ⟨c,rfl⟩,by decide⟩
 exact key _ rfl
structure Pq (L:List D) (many:Int):Prop where
 each:∀ p∈L,IsC 7 p
 few:((L.flatMap (clm 7)).length:Int)<=many
 most:many<=12
 rng:∀ c∈L.flatMap (clm 7),0<=c/\c<=10^9
 start:L=[]->many=0
theorem Pq.ok{L:List D}{b:Int}(h:Pq L b):∀ d∈L,dOK 15 d:=fun d hd=>zHT _ _ (h.each d hd)
theorem Pq.len{L:List D}{b:Int}(h:Pq L b):L.length<=12:=by
 have:=zES h.each
 have:=h.few
 have:=h.most
 omega
theorem Pq.knot{L:List D}{b:Int}(h:Pq L b){k:Nat}{w:Str}{ws:List Int}(hd:0<(L.drop k).length)(hw:w∈wys)(hs:wOK w ws (L.drop k).length)(hl:ws.length<=100){n:Nat}(hn:n<=7)(hk:∀ d∈L.drop k,IsC n d):IsC (n+1) (.tup [.str w,.tup (ws.map D.int),.tup (L.drop k)])/\clm (n+1) (.tup [.str w,.tup (ws.map D.int),.tup (L.drop k)])=(L.drop k).flatMap (clm 7):=by
 have:=h.len
 refine⟨.inr ⟨w,ws,_,rfl,(zNj hw).2,hd,by rw[QX];omega,hl,⟨hw,hs⟩,hk⟩,?_⟩
 show(L.drop k).flatMap (clm n)=_
 rw[Xw,Xw];congr 1
 exact Q6 fun d hd=>(nX (hk d hd) hn).symm
def PqS(cs:List Int)(plan most:Int)(i:Nat)(ρ:Rho):Prop:=∃(L:List D)(many:Int)(a5 a6 a7:Sl),ρ=[.val (.lst (cs.map D.int)),.val (.int plan),.val (.int most),.own L,.val (.int many),a5,a6,a7]/\Pq L many
theorem zQx{cs:List Int}{plan most:Int}{L:List D}{many:Int}{a6 a7:Sl}(pq:Pq L many)(hm:most<=12){i:Nat}(hi:i<cs.length)(hc:cs.length<=100):∃ ρ2,oQ [.val (.lst (cs.map D.int)),.val (.int plan),.val (.int most),.own L,.val (.int many),.val (.int (i:Int)),a6,a7]=.ok (.nx ρ2)/\PqS cs plan most (i+1) ρ2:=by
 obtain⟨mix,em,x0,x1⟩:=zHq (cs.getD i 0) (i:Int) (by omega) (by omega)
 have len:=pq.len;symm;rw[zPa hi];symm;rw[em];symm;have q0:=QM (mix / 5) (b:=4) (by decide)
 have q1:=QN (mix / 5) (b:=4) (by decide)
 generalize mix / 5 % 4=q at q0 q1
 have bt:many<12->∃ ρ2,(aX (cW 4 (eOp uB (aG 4) (eC (.int 1)))) kW) [.val (.lst (cs.map D.int)),.val (.int plan),.val (.int most),.own L,.val (.int many),.val (.int (i:Int)),.val (.int mix),.val (.int (1+q))]=.ok (.nx ρ2)/\PqS cs plan most (i+1) ρ2:=fun c=>by
  symm;have p1:(0:Int)<=mix / 13 % 13/\mix / 13 % 13<13:=⟨QM _ (by decide),QN _ (by decide)⟩
  have p2:(0:Int)<=mix / 89 % 4/\mix / 89 % 4<4:=⟨QM _ (by decide),QN _ (by decide)⟩
  have p3:(0:Int)<=mix / 17 % 10^9/\mix / 17 % 10^9<10^9:=⟨QM _ (by decide),QN _ (by decide)⟩
  have p4:(0:Int)<=plan % 3/\plan % 3<3:=⟨QM _ (by decide),QN _ (by decide)⟩
  obtain⟨u,hu,e⟩:∃ u:Int,(0<=u/\u<=10^9)/\oIx (.lst [.int (mix / 13 % 13),.int (mix / 89 % 4),.int (mix / 17 % 10^9)]) (.int (plan % 3))=.ok (.int u):=by
   generalize plan % 3=k at p4;have hk:k=0∨k=1∨k=2:=by omega
   rcases hk with rfl | rfl | rfl
   ·exact⟨_,by omega,rfl⟩
   ·exact⟨_,by omega,rfl⟩
   ·exact⟨_,by omega,rfl⟩
  rw[e];symm;rw[if_pos (by omega)];refine⟨_,rfl,L++[.tup [.str "boat", .int u]],many+1,_,_,_,rfl,⟨fun p hp=>?_,?_,by omega,fun c hc=>?_,fun z=>by simp at z⟩⟩
  ·rcases QI.mp hp with hp | hp
   ·exact pq.each p hp
   ·rw[Qu.mp hp];exact .inl ⟨u,rfl⟩
  ·have:=pq.few
   rw[Vw,Qm];show((_+1:Nat):Int)<=_
   omega
  ·rw[Vw] at hc
   rcases QI.mp hc with hc | hc
   ·exact pq.rng c hc
   ·have hc':c∈[u]:=hc
    rw[Qu.mp hc'];exact hu
 have kt:0<L.length->∃ ρ2,(sIf (tFrzB (dD (eOp oLt (eB zDa (aD (eF (jR (qK (eF (fSl (aG 3) (oS (eUn zB (aG 7))) oN))) jK (aP (dU 10) (aD (aG 8) aNil)))) aNil)) (eC (.int 7))))) (zBc 3 (zOu (zMM (eF (fSl (aG 3) oN (oS (eUn zB (aG 7))))) (eF (mK (aD (aP eP (aD (eF (fSl (aG 3) (oS (eUn zB (aG 7))) oN)) (aD (eOp rH (aG 6) (eC (.int 31))) (aD (aG 1) aNil)))) aNil)))))) sNext) [.val (.lst (cs.map D.int)),.val (.int plan),.val (.int most),.own L,.val (.int many),.val (.int (i:Int)),.val (.int mix),.val (.int (1+q))]=.ok (.nx ρ2)/\PqS cs plan most (i+1) ρ2:=fun l0=>by
  have sub:∀ k:Nat,∀ d∈L.drop k,d∈L:=fun k d hd=>YD hd
  have lp:0<(L.drop (L.length-(- -(1+q)).toNat)).length:=by rw[QX];omega
  symm;rw[vN (by omega)];generalize hk:L.length-(- -(1+q)).toNat=k at lp
  have e:=fA (u:=fun d:D=>d) (g:=fun d=>.int (dpt 7 d)) (l:=L.drop k) (f:=aP (dU 10) (aD (aG 8) aNil)) (ρ:=[.val (.lst (cs.map D.int)),.val (.int plan),.val (.int most),.val (.lst L),.val (.int many),.val (.int (i:Int)),.val (.int mix),.val (.int (1+q))]) (by rw[QX];omega) (fun d hd=>by
   have c7:=pq.each d (sub k d hd);symm;rw[zA 10 d (qY c7 (by decide)),zFA c7 (by decide)]
   symm)
  rw[List.map_id'] at e;rw[e];symm;rw[zCb lp];symm;by_cases c:mx0 ((L.drop k).map (dpt 7))<7
  ·rw[decide_eq_true c]
   obtain⟨w,ws,ew,hw,hs,hl⟩:=zG (ks:=L.drop k) (mix:=mix / 31) (plan:=plan) (m:=31) (by omega) (by decide) (by rw[QX];omega)
   have hn:∀ d∈L.drop k,IsC 6 d:=fun d hd=>zHB (pq.each d (sub k d hd)) (by
    have:=zId (l:=(L.drop k).map (dpt 7)) (Qo.mpr ⟨d,hd,rfl⟩)
    omega)
   obtain⟨k1,k2⟩:=pq.knot lp hw hs hl (by decide) hn
   have nl:noLs (L.take k++[.tup [.str w,.tup (ws.map D.int),.tup (L.drop k)]])=true:=zAF fun d hd=>by
    rcases QI.mp hd with h | h
    ·exact zDO _ _ (pq.ok d (Xa h))
    ·rw[Qu.mp h];exact zDO _ _ (zHT _ _ k1)
   symm;rw[zJj (by omega),vN (by omega),hk];rw[ew];symm;rw[if_pos (by rw[VH];omega)];symm;rw[if_pos nl]
   have fm:(L.take k++[D.tup [.str w,.tup (ws.map D.int),.tup (L.drop k)]]).flatMap (clm 7)=L.flatMap (clm 7):=by
    rw[Vw,Vn,Ym,QK]
    conv=>rhs;rw[<-Yi k L,Vw]
    rw[show clm 7 (D.tup [.str w,.tup (ws.map D.int),.tup (L.drop k)])=(L.drop k).flatMap (clm 7) from k2]
   refine⟨_,rfl,_,many,_,_,_,rfl,⟨fun p hp=>?_,by rw[fm];exact pq.few,pq.most,by rw[fm];exact pq.rng,fun z=>by simp at z⟩⟩
   rcases QI.mp hp with h | h
   ·exact pq.each p (Xa h)
   ·rw[Qu.mp h];exact k1
  ·rw[decide_eq_false c]
   symm;exact⟨_,rfl,L,many,_,_,_,rfl,pq⟩
 generalize hB:(aX (cW 4 (eOp uB (aG 4) (eC (.int 1)))) kW:Sv)=BB at bt;generalize hK:(sIf (tFrzB (dD (eOp oLt (eB zDa (aD (eF (jR (qK (eF (fSl (aG 3) (oS (eUn zB (aG 7))) oN))) jK (aP (dU 10) (aD (aG 8) aNil)))) aNil)) (eC (.int 7))))) (zBc 3 (zOu (zMM (eF (fSl (aG 3) oN (oS (eUn zB (aG 7))))) (eF (mK (aD (aP eP (aD (eF (fSl (aG 3) (oS (eUn zB (aG 7))) oN)) (aD (eOp rH (aG 6) (eC (.int 31))) (aD (aG 1) aNil)))) aNil)))))) sNext:Sv)=KK at kt
 have rest:∀ b:Bool,(b=true->many<12)->∃ ρ2,(((Res.ok b:Res Bool).bind (zRh (dD (eOp oEq (aG 3) (eF (mK aNil)))) [.val (.lst (cs.map D.int)),.val (.int plan),.val (.int most),.val (.lst L),.val (.int many),.val (.int (i:Int)),.val (.int mix),.val (.int (1+q))])).bind (ifF BB KK [.val (.lst (cs.map D.int)),.val (.int plan),.val (.int most),.own L,.val (.int many),.val (.int (i:Int)),.val (.int mix),.val (.int (1+q))]))=.ok (.nx ρ2)/\PqS cs plan most (i+1) ρ2:=by
  intro b hb
  cases b with
  | true=>exact bt (hb rfl)
  | false=>
   symm;rw[(zMc pq.ok).1];symm;by_cases c:L.length=0
   ·rw[decide_eq_true c]
    exact bt (by have:=pq.start (XX c);omega)
   ·rw[decide_eq_false c]
    exact kt (by omega)
 by_cases c1:mix / 11 % 3<2
 ·rw[decide_eq_true c1]
  symm;exact rest _ fun z=>by have:=of_decide_eq_true z;omega
 ·rw[decide_eq_false c1]
  exact rest false fun z=>by cases z
theorem zDq{cs:List Int}{plan most:Int}{m:Nat}(hc:cs.length<=100)(hm:plan.natAbs<2^m)(m20:m<=1048576)(h1:0<=most)(h2:most<=12):∃ d:D,iB [.lst (cs.map D.int),.int plan,.int most]=.ok (.v d)/\Gc 8 d:=by
 unfold iB;symm;rw[wJ (by omega) (by omega)];symm;refine kJ (Q:=fun r=>∃ d:D,r.bind fin=.ok (.v d)/\Gc 8 d) (PqS cs plan most) ⟨[],0,_,_,_,rfl,⟨fun p h=>(by cases h),by decide,by decide,fun p h=>(by cases h),fun _=>rfl⟩⟩ ?_ ?_
 ·rintro i e ρ he ⟨L,many,a5,a6,a7,rfl,pq⟩
  obtain⟨hi,rfl⟩:=yO he;rw[show(0:Int)+(i:Int)*1=(i:Int) by omega];exact zQx pq h2 (by omega) hc
 ·rintro ρ ⟨L,many,a5,a6,a7,rfl,pq⟩
  have len:=pq.len;symm;rw[(zMc pq.ok).1];symm;by_cases c0:L.length=0
  ·rw[decide_eq_true c0]
   symm;have p7:(0:Int)<=plan % 7/\plan % 7<7:=⟨QM _ (by decide),QN _ (by decide)⟩
   exact⟨_,rfl,.inl ⟨_,rfl⟩,by show 1<=12;decide,fun c hc=>by have hc':c∈[plan % 7]:=hc;rw[Qu.mp hc'];omega⟩
  ·rw[decide_eq_false c0]
   symm;by_cases c1:L.length=1
   ·rw[decide_eq_true (by omega)]
    obtain⟨x,rfl⟩:∃ x,L=[x]:=by
     match L,c1 with
     | [x],_=>exact⟨x,rfl⟩
    have cx:=pq.each x Qb;have e7:clm 8 x=clm 7 x:=nX cx (by decide)
    have fm:([x]:List D).flatMap (clm 7)=clm 7 x:=by simp
    symm;refine⟨x,rfl,qY cx (by decide),?_,?_⟩
    ·rw[e7,<-fm];have:=pq.few;have:=pq.most;omega
    ·rw[e7,<-fm];exact pq.rng
   ·rw[decide_eq_false (by omega)]
    symm;obtain⟨w,ws,ew,hw,hs,hl⟩:=zG (ks:=L) (mix:=plan / 9) (plan:=plan) (m:=m) (Vq (by omega) hm) m20 (by omega)
    rw[ew];symm;obtain⟨k1,k2⟩:=pq.knot (k:=0) (w:=w) (ws:=ws) (by rw[VW];omega) hw (by rw[VW];exact hs) hl (by decide) (fun d hd=>pq.each d (by rw[VW] at hd;exact hd))
    rw[VW] at k1 k2;refine⟨_,rfl,k1,?_,?_⟩
    ·rw[k2];have:=pq.few;have:=pq.most;omega
    ·rw[k2];exact pq.rng
abbrev Big(ns:List Int):Prop:=∃ m,m<=1048576/\∀ n∈ns,n.natAbs<2^m
theorem Big.at{ns:List Int}(h:Big ns)(k:Nat):∃ m,m<=1048576/\(ns.getD k 0).natAbs<2^m:=by
 obtain⟨m,m1,m2⟩:=h;by_cases c:k<ns.length
 ·exact⟨m,m1,m2 _ (Qi (bP c))⟩
 ·refine⟨0,by decide,?_⟩
  rw[Qx,QA (by omega)];decide
theorem zNc{b:Bool}:zPS [.bl b]=.ok (.int (if b then 1 else 0)):=by cases b<;>rfl
theorem zBB{b:Bool}{x y:Int}:oIx (.lst [.int x,.int y]) (.int (if b then 1 else 0))=.ok (.int (if b then y else x)):=by cases b<;>rfl
theorem zGN(ns:List Int)(a b:Int)(ha:0<=a)(hb:0<=b):∃ cs:List Int,gA (ns.map D.int) (some a) (some b)=cs.map D.int/\cs.length<=ns.length:=by
 refine⟨(ns.drop a.toNat).take (b.toNat-a.toNat),by rw[zJQ ha hb,List.map_take,List.map_drop],?_⟩
 rw[VH,QX];omega
theorem zNq(ls:List (List Pt)):dep (.lst (ls.map lnD))<=50:=by
 rw[dep]
 have:depS (ls.map lnD)<=20:=by
  induction ls with
  | nil=>simp[depS]
  | cons a r ih=>
   rw[Qs,depS];refine Xm.mpr ⟨?_,ih⟩
   unfold lnD;rw[dep];have:=zBz a
   omega
 omega
theorem zMk{ls:List (List Pt)}{j:Nat}(h:j<ls.length):oIx (.lst (ls.map lnD)) (.int (j:Int))=.ok (lnD (ls.getD j [])):=mY (Vg j) (by rw[Q2,Qx,Ql h];rfl)
theorem zOz{g:Gv}{b:Sv}{ds:List D}{ρ:Rho}(P:Nat->Rho->Prop)(h0:P 0 ρ)(st:∀ i d ρ,ds[i]?=some d->P i ρ->∃ ρ2,(g d ρ).bind b=.ok (.nx ρ2)/\P (i+1) ρ2):∃ ρ',fS g b ds ρ=.ok (.nx ρ')/\P ds.length ρ':=by
 have e:∀ r:Res Fl,r.bind (fun f=>.ok f)=r:=fun r=>by cases r<;>rfl
 have:=kJ (k:=fun f=>(.ok f:Res Fl)) (Q:=fun r=>∃ ρ',r=.ok (.nx ρ')/\P ds.length ρ') P h0 st fun ρ' h=>⟨ρ',rfl,h⟩
 rw[e] at this;exact this
theorem zEl{S c:Int}{g:Rat->Rat}{k:Nat}{l:List Pt}(h:CL S c g 272 k l)(hk:k<=1000)(S0:0<=S)(hS:S<2^34)(cell:Int):∃ x:Rat,jI [.int cell,lnD l]=.ok (.v (dq x))/\0<=x/\x<=(S:Rat)/\(x.den:Int)<=2^272:=by
 have len:=h.len
 have h0:0<l.length:=by cases l with
  | nil=>cases h.la
  | cons a r=>exact Vv _
 have he1:l[l.length-1]?=some ((S:Rat),(c:Rat)):=by rw[<-Q4];exact h.la
 have la:oIx (lnD l) (.int (-1))=.ok (dp ((S:Rat),(c:Rat))):=zAS (i:=-1) (k:=1) rfl (by decide) h0 he1
 have ln:kU [lnD l]=.ok (.int (l.length:Int)):=by unfold lnD;simp[bLen_t]
 have S0':(0:Rat)<=(S:Rat):=by exact_mod_cast S0
 have zS:Sz 40 (S:Rat):=((Dn.int 1 S).sz (a:=34) (b:=1) (by decide) (by decide) S0' Qh hS).mono (by decide)
 unfold jI;symm;generalize (cell*69697+13) % 2147483647=mix;have b1:0<=mix / 7 % 40:=QM _ (by decide)
 have b2:mix / 7 % 40<40:=QN _ (by decide)
 generalize mix / 7 % 40=bo at b1 b2;rw[la];symm;have c1:=QM (mix / 311) (show 1+bo+1≠0 by omega)
 have c2:=QN (mix / 311) (show 0<1+bo+1 by omega)
 rw[oMod_i (by omega),fmod_pos _ (by omega)];symm;generalize mix / 311 % (1+bo+1)=tp at c1 c2;rw[kX (n:=10) (by omega) (by omega) (by decide)];symm;have z:=Sz.of (n:=10) (t:=tp) (b:=1+bo) (by omega) (by omega) (by omega)
 rw[jF zS z (by decide)];symm;by_cases c:mix / 5 % 3=1
 ·have d1:=QM (mix / 11) (show(l.length:Int)≠0 by omega)
  have d2:=QN (mix / 11) (show 0<(l.length:Int) by omega)
  rw[decide_eq_true c];symm;rw[ln];symm;rw[oMod_i (by omega),fmod_pos _ (by omega)];symm;have hq:l[(mix / 11 % (l.length:Int)).toNat]?=some l[(mix / 11 % (l.length:Int)).toNat]:=Ql (by omega)
  have pm:=Qi hq;have bp:=h.pt pm;rw[show oIx (lnD l) (.int (mix / 11 % (l.length:Int)))=.ok (dp _) from eK d1 hq];symm;exact⟨_,rfl,bp.2.1,bp.2.2.1,h.den _ pm⟩
 ·rw[decide_eq_false c]
  symm;have bp:(0:Rat)<((1+bo:Int):Rat):=by exact_mod_cast (show 0<1+bo by omega)
  have tn:(0:Rat)<=(tp:Rat):=by exact_mod_cast c1
  have tb:(tp:Rat)<=((1+bo:Int):Rat):=Vu.mpr (by omega)
  have e:(S:Rat)*Rat.divInt tp (1+bo)*((1+bo:Int):Rat)=(S:Rat)*(tp:Rat):=by
   rw[VC,XO,Q8 (by grind)]
  have dv:(0:Rat)<=Rat.divInt tp (1+bo):=zHy c1 (by omega)
  refine⟨_,rfl,Xi S0' dv,?_,?_⟩
  ·refine sZ bp ?_
   rw[e];exact Vs tb S0'
  ·have d:Dn (1+bo) ((S:Rat)*Rat.divInt tp (1+bo)):=⟨S*tp,by rw[e,QO]⟩
   have:=d.le (by omega)
   have:=sS (show 6<=272 by decide)
   omega
theorem SzQ.szp{a b n:Nat}{p:Pt}(h:SzQ a b p)(ha:a<=n)(hb:b<=n):SzP n p:=⟨h.1.mono ha,h.2.mono hb⟩
theorem zNR{S c:Int}{g:Rat->Rat}{m k:Nat}{l:List Pt}(h:CL S c g m k l):oIx (lnD l) (.int (-1))=.ok (dp ((S:Rat),(c:Rat))):=by
 have h0:0<l.length:=by cases l with
  | nil=>cases h.la
  | cons a r=>exact Vv _
 exact zAS (i:=-1) (k:=1) rfl (by decide) h0 (by rw[<-Q4];exact h.la)
theorem zOg{xs ys:List D}{i:Nat}{e:D}(h:(gT xs ys)[i]?=some e):∃ x y,xs[i]?=some x/\ys[i]?=some y/\e=.tup [x,y]:=by
 induction xs generalizing ys i with
 | nil=>simp[gT] at h
 | cons a r ih=>
  cases ys with
  | nil=>simp[gT] at h
  | cons b s=>
   cases i with
   | zero=>exact⟨a,b,rfl,rfl,by simpa [gT] using h.symm⟩
   | succ i=>exact ih (by simpa [gT] using h)
theorem zNP(ls:List (List Pt)):noLs (ls.map lnD)=true:=zAF fun d hd=>by
 obtain⟨l,_,rfl⟩:=Qo.mp hd;unfold lnD;rw[noL];exact zAF fun e he=>by obtain⟨p,_,rfl⟩:=Qo.mp he;rfl
abbrev R29(ns:List Int)(plan wd:Int)(d:D)(cs:List Int)(Ls:List (List Pt))(s6 s7 s8 s9 s10 s11 s12:Sl):Rho:=[.val (.lst (ns.map D.int)),.val (.int plan),.val (.int wd),.val d,.val (.lst (cs.map D.int)),.own (Ls.map lnD),s6,s7,s8,s9,s10,s11,s12]
theorem zLg{ns:List Int}{plan wd cell:Int}{d:D}{Ls:List (List Pt)}{s6 s7 s9 s10 s11 s12:Sl}(g:Gc 8 d)(lg:LLg (clm 8 d).sum (clm 8 d) (SF 8 d) 272 242 Ls):∃ t9 t10 t11,zGc (R29 ns plan wd d (clm 8 d) Ls s6 s7 (.val (.int cell)) s9 s10 s11 s12)=.ok (.nx (R29 ns plan wd d (clm 8 d) Ls s6 s7 (.val (.int cell)) t9 t10 t11 s12)):=by
 have gs:=g.sum;have l1:=zDH g.1;have hS:(clm 8 d).sum<2^34:=by omega
 have ll:=lg.1;have m0:=QM (cell / 4) (show(Ls.length:Int)≠0 by omega)
 have m1:=QN (cell / 4) (show 0<(Ls.length:Int) by omega)
 symm;rw[oMod_i (by omega),fmod_pos _ (by omega)];symm;generalize hj:cell / 4 % (Ls.length:Int)=j at m0 m1;obtain⟨j,rfl⟩:=XG m0;have hj':j<(clm 8 d).length:=by omega
 rw[zMk (show j<Ls.length by omega)];symm;obtain⟨x,ex,x0,x1,xd⟩:=zEl (lg.2 j hj') (by decide) gs.1 hS cell
 have xd':(x.den:Int)<2^273:=Int.lt_of_le_of_lt xd (by decide)
 have zx:Sz 310 x:=(zDh x0 x1 hS xd).mono (by decide)
 obtain⟨xs,es,sh⟩:=zKE (m:=273) g (by decide) x0 x1 xd' (by decide)
 have sx:=zPY g sh x0 x1;have lx:xs.length=(clm 8 d).length:=by rw[sx];exact zJi g.1 x
 rw[ex];symm;rw[es];symm;rw[wJ (by omega) (by have:=g.2.1;omega)];symm
 obtain⟨ρ',e',t11,rfl⟩:=zOz (g:=gName 11) (b:=zFq) (ds:=rng 0 ((clm 8 d).length:Int).toNat 1) (ρ:=R29 ns plan wd d (clm 8 d) Ls s6 s7 (.val (.int cell)) (.val (dq x)) (.val (.lst (xs.map dq))) s11 s12) (fun i ρ=>∃ t11,ρ=R29 ns plan wd d (clm 8 d) Ls s6 s7 (.val (.int cell)) (.val (dq x)) (.val (.lst (xs.map dq))) t11 s12) ⟨_,rfl⟩ (by
  rintro i e ρ he ⟨t11,rfl⟩
  obtain⟨hi,rfl⟩:=yO he;have hi':i<(clm 8 d).length:=by omega
  have h:=lg.2 i hi';have ci:=g.2.2 _ (Qi (bP hi'));have zl:=h.sz hS (by omega)
  rw[show(0:Int)+(i:Int)*1=(i:Int) by omega]
  have ei:oIx (.lst (xs.map dq)) (.int (i:Int))=.ok (dq ((SF 8 d x).getD i 0)):=by
   rw[<-sx];exact mY (Vg i) (by rw[Q2,Qx,Ql (by omega)];rfl)
  symm;rw[zMk (show i<Ls.length by omega)];symm;rw[show fI [lnD (Ls.getD i []),dq x]=_ from zDM (n:=580) (m:=310) (by have:=h.len;omega) (fun p hp=>(zl p hp).szp (by decide) (by decide)) zx (by decide) h.ln.1 h.la x0 x1,h.val x x0 x1];symm;rw[ei];symm
  exact⟨_,rfl,_,rfl⟩)
 rw[e'];exact⟨_,_,_,rfl⟩
theorem law_true:∀ ns:List Int,ns.length<=63->Big ns->zMF [.lst (ns.map D.int)]=.ok (.v (.bl true)):=by
 intro ns hl hb;obtain⟨m,m1,m2⟩:=hb.at 0;unfold zMF;symm;rw[zBl ns 0 (by decide),show((0:Int).toNat)=0 from rfl];generalize ns.getD 0 0=plan at m2;symm;rw[zNc];symm;rw[zBB];symm;rw[zBB];symm;obtain⟨cs,ec,lc⟩:=zGN ns 1 (if decide (plan / 7 % 4=3)=true then 31 else 21) (by decide) (by split<;>decide)
 obtain⟨d,ed,g⟩:=zDq (cs:=cs) (plan:=plan) (most:=if decide (plan / 7 % 4=3)=true then 12 else 8) (by omega) m2 m1 (by split<;>decide) (by split<;>decide)
 obtain⟨Ls,eL,lg⟩:=zH 8 10 d g (by decide) (by decide)
 have gs:=g.sum;have l12:=g.2.1;have hS:(clm 8 d).sum<2^34:=by omega
 have ll:=lg.1;rw[ec,ed];symm;rw[vC 10 d (qY g.1 (by decide)) (by rw[nX (m:=10) g.1 (by decide)];omega),nX (m:=10) g.1 (by decide)];symm;rw[eL];symm;rw[ll];symm
 rw[zKS (ds:=gT (Ls.map lnD) ((clm 8 d).map D.int)) (by
  symm
  rw[mQ rfl rfl]) (fun x hx=>by
  obtain⟨i,hi⟩:=VP.mp hx;obtain⟨a,b,ha,hb',rfl⟩:=zOg hi;rw[Qr] at ha hb'
  have il:i<(clm 8 d).length:=by
   rcases XU i (clm 8 d).length with z | z
   ·exact z
   ·rw[QA (l:=clm 8 d) z] at hb';cases hb'
  have h:=lg.2 i il;have ci:=g.2.2 _ (Qi (bP il));have zl:=h.sz hS (by omega)
  rw[bP il] at hb';rw[show Ls[i]?=some (Ls.getD i []) by rw[Qx,Ql (by omega)];rfl] at ha;cases ha;cases hb'
  refine⟨_,_,rfl,?_⟩
  symm;rw[show iZ [lnD (Ls.getD i [])]=_ from zGv (n:=580) h.ln (by have:=h.len;omega) (fun p hp=>(zl p hp).szp (by decide) (by decide)) (by decide)];symm;rw[zNR h];symm;rw[show D.tup [D.tup [D.int (clm 8 d).sum,D.int 1],D.tup [D.int ((clm 8 d).getD i 0),D.int 1]]=dp (((clm 8 d).sum:Rat),(((clm 8 d).getD i 0:Int):Rat)) from rfl,zOE (by rw[dep_dp];decide)]
  rfl)]
 symm;rw[zBB];symm;have wn:0<=(if decide (plan / 7 % 4=3)=true then 5 else 16:Int):=by split<;>decide
 rw[zGd wn,<-List.map_take];symm;rw[if_pos (by rw[VH];omega),show D.int 0::List.map D.int (List.take (if decide (plan / 7 % 4=3)=true then 5 else 16:Int).toNat ns)=(0::List.take (if decide (plan / 7 % 4=3)=true then 5 else 16:Int).toNat ns).map D.int from rfl];generalize (0::List.take (if decide (plan / 7 % 4=3)=true then 5 else 16:Int).toNat ns)=ms;symm;refine kJ (Q:=fun r=>r.bind fin=.ok (.v (.bl true))) (k:=zMC zFU) (fun i ρ=>∃ s8 s9 s10 s11:Sl,ρ=R29 ns plan (if decide (plan / 7 % 4=3)=true then 1 else 0) d (clm 8 d) Ls .un .un s8 s9 s10 s11 .un) ⟨_,_,_,_,rfl⟩ ?_ ?_
 ·rintro i e ρ he ⟨s8,s9,s10,s11,rfl⟩
  obtain⟨c,hcm,rfl⟩:=Qo.mp (Qi he);obtain⟨t9,t10,t11,ek⟩:=zLg (ns:=ns) (plan:=plan) (wd:=if decide (plan / 7 % 4=3)=true then 1 else 0) (cell:=c) (s6:=.un) (s7:=.un) (s9:=s9) (s10:=s10) (s11:=s11) (s12:=.un) g lg;exact⟨_,ek,_,_,_,_,rfl⟩
 ·rintro ρ ⟨s8,s9,s10,s11,rfl⟩
  symm;rw[if_pos (zNP Ls)];symm;rw[if_pos (by omega)];symm;rw[eL];symm;rw[zIa (zNq _)];symm
end Lw
namespace Lw
open PySem PySem.Spec PyProof.Rows L2 L3
local macro_rules | `(tactic| walk_at "b")=>`(tactic| (intro _ _ _ _ _ _ us hl; first | (obtain ⟨_,e⟩:=L3.ln1 hl;subst e;rfl) | (obtain ⟨_,_,e⟩:=L3.ln2 hl;subst e;rfl) | (obtain ⟨_,_,_,e⟩:=L3.ln3 hl;subst e;rfl) | (obtain ⟨_,_,_,_,e⟩:=L3.ln4 hl;subst e;rfl)))
theorem _root_.L3.CanM.mo{P:Program}{w:World}{K:Fg_}{mg:Str->Option Value}{base:Heap}{j k:Nat}{x:Str}{ps:List Str}{m:Mir}(c:CanM P w K mg base j x ps m)(h:j<=k:=by decide):CanM P w K mg base k x ps m:=c.mono h
local macro_rules | `(tactic| walk_at "s")=>`(tactic| exact⟨rfl,rfl,rfl,by decide +kernel,rfl,by decide +kernel,by decide +kernel⟩)
def top(i:Nat):Stmt:=PySem.Challenge.pw_catchhall_k29_lines_and_shares.main.body.getD i (.Pass ⟨0,0,0,0⟩)
abbrev iN:Stmt:=top 11
theorem cO:FnScope ["one","two","rest"] ["one","two"] (aH iN):=by walk_at "s"
abbrev zIV:Stmt:=top 12
theorem zED:FnScope ["top","bottom","divisor"] ["top","bottom"] (aH zIV):=by walk_at "s"
abbrev zDP:Stmt:=top 13
theorem zKU:FnScope ["number"] ["number"] (aH zDP):=by walk_at "s"
abbrev zJL:Stmt:=top 14
theorem zMQ:FnScope ["one","two"] ["one","two"] (aH zJL):=by walk_at "s"
abbrev zEE:Stmt:=top 15
theorem zLv:FnScope ["one","two"] ["one","two"] (aH zEE):=by walk_at "s"
abbrev zEL:Stmt:=top 16
theorem zLr:FnScope ["one","two"] ["one","two"] (aH zEL):=by walk_at "s"
abbrev zHt:Stmt:=top 17
theorem zOJ:FnScope ["one","two"] ["one","two"] (aH zHt):=by walk_at "s"
abbrev zIQ:Stmt:=top 18
theorem zNC:FnScope ["one","two"] ["one","two"] (aH zIQ):=by walk_at "s"
abbrev zAL:Stmt:=top 19
theorem zJd:FnScope ["one","two"] ["one","two"] (aH zAL):=by walk_at "s"
abbrev mU:Stmt:=top 20
theorem zAv:FnScope ["amount","most"] ["amount","most"] (aH mU):=by walk_at "s"
abbrev iP:Stmt:=top 21
theorem rO:FnScope ["amount","most"] ["amount","most"] (aH iP):=by walk_at "s"
abbrev iW:Stmt:=top 22
theorem qM:FnScope ["some","bottom","each"] ["some"] (aH iW):=by walk_at "s"
abbrev zBH:Stmt:=top 27
theorem zIH:FnScope ["way","weights","claims"] ["way","weights","claims"] (aH zBH):=by walk_at "s"
abbrev mX:Stmt:=top 28
theorem zBJ:FnScope ["way"] ["way"] (aH mX):=by walk_at "s"
abbrev jD:Stmt:=top 29
theorem mG:FnScope ["claims","claim"] ["claims"] (aH jD):=by walk_at "s"
abbrev iQ:Stmt:=top 30
theorem gI:FnScope ["way","weights","many","due","weight"] ["way","weights","many"] (aH iQ):=by walk_at "s"
abbrev kP:Stmt:=top 31
theorem uS:FnScope ["way"] ["way"] (aH kP):=by walk_at "s"
abbrev zEw:Stmt:=top 32
theorem zKx:FnScope ["way","weights","claims","catch"] ["way","weights","claims","catch"] (aH zEw):=by walk_at "s"
abbrev eI:Stmt:=top 33
theorem eX:FnScope ["way","weights","claims","catch","most","lacking"] ["way","weights","claims","catch"] (aH eI):=by walk_at "s"
abbrev pK:Stmt:=top 34
theorem fQ:FnScope ["claims","catch","left","amounts","claim","amount"] ["claims","catch"] (aH pK):=by walk_at "s"
abbrev nE:Stmt:=top 35
theorem cX:FnScope ["weights","claims","catch","left","weight","amounts","spot","by_weight"] ["weights","claims","catch"] (aH nE):=by walk_at "s"
abbrev lO:Stmt:=top 36
theorem zCR:FnScope ["weights","claims"] ["weights","claims"] (aH lO):=by walk_at "s"
abbrev kC:Stmt:=top 37
theorem iR:FnScope ["claims","catch","most","part"] ["claims","catch"] (aH kC):=by walk_at "s"
abbrev kD:Stmt:=top 38
theorem lS:FnScope ["claims","catch","ones"] ["claims","catch"] (aH kD):=by walk_at "s"
abbrev vQ:Stmt:=top 41
theorem zGk:FnScope ["custom"] ["custom"] (aH vQ):=by walk_at "s"
abbrev zBp:Stmt:=top 42
theorem zJN:FnScope ["custom"] ["custom"] (aH zBp):=by walk_at "s"
abbrev nO:Stmt:=top 43
theorem zBw:FnScope ["custom"] ["custom"] (aH nO):=by walk_at "s"
abbrev uJ:Stmt:=top 44
theorem zGn:FnScope ["custom"] ["custom"] (aH uJ):=by walk_at "s"
abbrev lI:Stmt:=top 45
theorem jU:FnScope ["custom","claims","kid"] ["custom"] (aH lI):=by walk_at "s"
abbrev sP:Stmt:=top 46
theorem zDL:FnScope ["custom"] ["custom"] (aH sP):=by walk_at "s"
abbrev jY:Stmt:=top 47
theorem qW:FnScope ["custom"] ["custom"] (aH jY):=by walk_at "s"
abbrev zAA:Stmt:=top 48
theorem zIo:FnScope ["custom","catch"] ["custom","catch"] (aH zAA):=by walk_at "s"
abbrev oA:Stmt:=top 49
theorem gW:FnScope ["custom","catch","amounts","told","kid","amount"] ["custom","catch"] (aH oA):=by walk_at "s"
abbrev wP:Stmt:=top 53
theorem sH:FnScope ["points","kept","point"] ["points"] (aH wP):=by walk_at "s"
abbrev nF:Stmt:=top 54
theorem iT:FnScope ["points","spot","ahead","point"] ["points"] (aH nF):=by walk_at "s"
abbrev nG:Stmt:=top 55
theorem fX:FnScope ["ahead","point","later","rise","later_rise","run","later_run"] ["ahead","point","later"] (aH nG):=by walk_at "s"
abbrev zAe:Stmt:=top 56
theorem zJg:FnScope ["line"] ["line"] (aH zAe):=by walk_at "s"
abbrev zAn:Stmt:=top 57
theorem zIl:FnScope ["line"] ["line"] (aH zAn):=by walk_at "s"
abbrev zEH:Stmt:=top 58
theorem zKY:FnScope ["line","x"] ["line","x"] (aH zEH):=by walk_at "s"
abbrev iO:Stmt:=top 59
theorem cQ:FnScope ["line","axis","amount","low","high","middle"] ["line","axis","amount"] (aH iO):=by walk_at "s"
abbrev zNh:Stmt:=top 60
theorem zD:FnScope ["line","axis","amount","other","spot","there","here","part"] ["line","axis","amount"] (aH zNh):=by walk_at "s"
abbrev pY:Stmt:=top 61
theorem mV:FnScope ["one","two","bends","joints"] ["one","two"] (aH pY):=by walk_at "s"
abbrev uF:Stmt:=top 62
theorem zCm:FnScope ["line"] ["line"] (aH uF):=by walk_at "s"
abbrev zZ:Stmt:=top 63
theorem kY:FnScope ["one","two","both","spot","x"] ["one","two"] (aH zZ):=by walk_at "s"
abbrev jN:Stmt:=top 65
theorem iJ:FnScope ["way","weights","claims","joints","dealings"] ["way","weights","claims"] (aH jN):=by walk_at "s"
abbrev qH:Stmt:=top 66
theorem zHf:FnScope ["joints","dealings","spot"] ["joints","dealings","spot"] (aH qH):=by walk_at "s"
abbrev jP:Stmt:=top 67
theorem iI:FnScope ["way","weights","claims","most","early"] ["way","weights","claims"] (aH jP):=by walk_at "s"
abbrev mT:Stmt:=top 68
theorem gC:FnScope ["claims","filled","joints","claim"] ["claims"] (aH mT):=by walk_at "s"
abbrev lQ:Stmt:=top 69
theorem cK:FnScope ["weights","claims","filled","weight","levels","joints","spot"] ["weights","claims"] (aH lQ):=by walk_at "s"
abbrev nV:Stmt:=top 70
theorem wK:FnScope ["joints","most"] ["joints","most"] (aH nV):=by walk_at "s"
abbrev gO:Stmt:=top 71
theorem fT:FnScope ["joints","kept","joint"] ["joints"] (aH gO):=by walk_at "s"
abbrev kZ:Stmt:=top 73
theorem fH:FnScope ["custom","ways","told","kid","way_line"] ["custom"] (aH kZ):=by walk_at "s"
abbrev rP:Stmt:=top 74
theorem wO:FnScope ["claim","start"] ["claim"] (aH rP):=by walk_at "s"
abbrev lH:Stmt:=top 76
theorem xO:FnScope ["script","k"] ["script","k"] (aH lH):=by walk_at "s"
abbrev rK:Stmt:=top 77
theorem fG:FnScope ["top","bottom","one","other","rest"] ["top","bottom"] (aH rK):=by walk_at "s"
abbrev sE:Stmt:=top 78
theorem zDY:FnScope ["one","two"] ["one","two"] (aH sE):=by walk_at "s"
abbrev oZ:Stmt:=top 79
theorem zCG:FnScope ["one","two"] ["one","two"] (aH oZ):=by walk_at "s"
abbrev oW:Stmt:=top 80
theorem zBN:FnScope ["one","two"] ["one","two"] (aH oW):=by walk_at "s"
abbrev rV:Stmt:=top 81
theorem zEg:FnScope ["one","two"] ["one","two"] (aH rV):=by walk_at "s"
abbrev gX:Stmt:=top 82
theorem kG:FnScope ["found","number"] ["found"] (aH gX):=by walk_at "s"
abbrev nL:Stmt:=top 83
theorem cE:FnScope ["points","told","k","straight_v","run","rise","more","up"] ["points"] (aH nL):=by walk_at "s"
abbrev pJ:Stmt:=top 84
theorem iE:FnScope ["line","x","k","run","rise","part"] ["line","x"] (aH pJ):=by walk_at "s"
abbrev sJ:Stmt:=top 85
theorem oR:FnScope ["found","point","k"] ["found"] (aH sJ):=by walk_at "s"
abbrev oT:Stmt:=top 86
theorem iH:FnScope ["cell","line","mix","bottom","x"] ["cell","line"] (aH oT):=by walk_at "s"
abbrev vM:Stmt:=top 87
theorem zGw:FnScope ["cell","k"] ["cell","k"] (aH vM):=by walk_at "s"
abbrev nU:Stmt:=top 88
theorem gU:FnScope ["kids","mix","plan","way","weights","great"] ["kids","mix","plan"] (aH nU):=by walk_at "s"
abbrev lB:Stmt:=top 89
theorem pC:FnScope ["custom"] ["custom"] (aH lB):=by walk_at "s"
abbrev jX:Stmt:=top 90
theorem cH:FnScope ["cells","plan","most","pile","many","k","mix","few"] ["cells","plan","most"] (aH jX):=by walk_at "s"
abbrev lE:Stmt:=top 91
theorem kF:FnScope ["custom","told","kid"] ["custom"] (aH lE):=by walk_at "s"
abbrev uU:Stmt:=top 92
theorem lZ:FnScope ["script","plan","wide","custom","claims","found","line","claim","cell","x","got","k","kept"] ["script"] (aH uU):=by walk_at "s"
structure Bt (mg:Str->Option Value):Prop where
 abs:mg "abs" = none
 sorted:mg "sorted" = none
 range:mg "range" = none
 len:mg "len" = none
 sum:mg "sum" = none
 zip:mg "zip" = none
 tuple:mg "tuple" = none
 reversed:mg "reversed" = none
 isinstance:mg "isinstance" = none
 bool:mg "bool" = none
 int:mg "int" = none
 max:mg "max" = none
 list:mg "list" = none
structure Kt (K:PySem.W.Frag):Prop where
 bool:Kit K "bool"
 int:Kit K "int"
 list:Kit K "list"
 tuple:Kit K "tuple"
structure Ct (K:PySem.W.Frag) (mg:Str->Option Value):Prop where
 ACROSS:∃ v u,mg "ACROSS" = some u/\dI v u/\IsD K (fun _=>none) v d_ACROSS
 BOAT:∃ v u,mg "BOAT" = some u/\dI v u/\IsD K (fun _=>none) v d_BOAT
 HALF:∃ v u,mg "HALF" = some u/\dI v u/\IsD K (fun _=>none) v d_HALF
 NOUGHT:∃ v u,mg "NOUGHT" = some u/\dI v u/\IsD K (fun _=>none) v eZ
 UP:∃ v u,mg "UP" = some u/\dI v u/\IsD K (fun _=>none) v d_UP
 WEIGHTED:∃ v u,mg "WEIGHTED" = some u/\dI v u/\IsD K (fun _=>none) v d_WEIGHTED
 CONTRARY:∃ a,IsTab K mg "CONTRARY" aW a
structure Rt (K:PySem.W.Frag) (mg:Str->Option Value):Prop where
 BadClaim:∃ C,Err K mg "BadClaim" C
 BadLine:∃ C,Err K mg "BadLine" C
 BadWay:∃ C,Err K mg "BadWay" C
 BadWeights:∃ C,Err K mg "BadWeights" C
 NoFraction:∃ C,Err K mg "NoFraction" C
 Outside:∃ C,Err K mg "Outside" C
 Unlike:∃ C,Err K mg "Unlike" C
structure Et (K:PySem.W.Frag) (mg:Str->Option Value):Prop where
theorem zRT{K:Fg_}{h:Heap}{mg:Str->Option Value}{t0 t1 t2 t3 t4 t5 t6 t7 t8:Tok}{pHALF0:Addr}{o_pHALF0:Option Addr}{n_pHALF0:Nat}{s_pHALF0:Array (Option Value)}{pNOUGHT1:Addr}{o_pNOUGHT1:Option Addr}{n_pNOUGHT1:Nat}{s_pNOUGHT1:Array (Option Value)}{pWEIGHTED2:Addr}{o_pWEIGHTED2:Option Addr}{n_pWEIGHTED2:Nat}{s_pWEIGHTED2:Array (Option Value)}{a_CONTRARY:Addr}(X:K.In h)(G:h.Ns mainGlobals mg)(n_ACROSS:PySem.W.nsIn K mainGlobals "ACROSS" = some (some (.int (0) t0)))(n_BOAT:PySem.W.nsIn K mainGlobals "BOAT" = some (some (.str "boat" t1)))(n_HALF:PySem.W.nsIn K mainGlobals "HALF" = some (some (.ref pHALF0)))(pHALF0_l:K.lookup pHALF0=some ⟨.type "tuple", o_pHALF0,.seq #[.int (1) t2,.int (2) t3] n_pHALF0,s_pHALF0⟩)(n_NOUGHT:PySem.W.nsIn K mainGlobals "NOUGHT" = some (some (.ref pNOUGHT1)))(pNOUGHT1_l:K.lookup pNOUGHT1=some ⟨.type "tuple", o_pNOUGHT1,.seq #[.int (0) t4,.int (1) t5] n_pNOUGHT1,s_pNOUGHT1⟩)(n_UP:PySem.W.nsIn K mainGlobals "UP" = some (some (.int (1) t6)))(n_WEIGHTED:PySem.W.nsIn K mainGlobals "WEIGHTED" = some (some (.ref pWEIGHTED2)))(pWEIGHTED2_l:K.lookup pWEIGHTED2=some ⟨.type "tuple", o_pWEIGHTED2,.seq #[.str "even" t7,.str "lack" t8] n_pWEIGHTED2,s_pWEIGHTED2⟩)(n_CONTRARY:PySem.W.nsIn K mainGlobals "CONTRARY" = some (some (.ref a_CONTRARY)))(aW:PyProof.Rows.KTD.tabLook (PyProof.Rows.KTD.datLooks fun a=>K.lookup a) (fun a=>K.lookup a) a_CONTRARY (zLc Lw.aW)=true):Ct K mg:=⟨⟨.int (0),_,Q9 X G n_ACROSS,⟨_,rfl⟩,(.int _)⟩,⟨.str "boat", _,Q9 X G n_BOAT,⟨_,rfl⟩,(.str _)⟩,⟨.ref pHALF0,_,Q9 X G n_HALF,rfl,(.tup (.inr ⟨_,_,_,pHALF0_l,rfl,rfl,Yn rfl,(.cons (show dI (.int (1)) _ from ⟨_,rfl⟩) (.cons (show dI (.int (2)) _ from ⟨_,rfl⟩) .nil))⟩) (.cons (.int _) (.cons (.int _) .nil)))⟩,⟨.ref pNOUGHT1,_,Q9 X G n_NOUGHT,rfl,(.tup (.inr ⟨_,_,_,pNOUGHT1_l,rfl,rfl,Yn rfl,(.cons (show dI (.int (0)) _ from ⟨_,rfl⟩) (.cons (show dI (.int (1)) _ from ⟨_,rfl⟩) .nil))⟩) (.cons (.int _) (.cons (.int _) .nil)))⟩,⟨.int (1),_,Q9 X G n_UP,⟨_,rfl⟩,(.int _)⟩,⟨.ref pWEIGHTED2,_,Q9 X G n_WEIGHTED,rfl,(.tup (.inr ⟨_,_,_,pWEIGHTED2_l,rfl,rfl,Yn rfl,(.cons (show dI (.str "even") _ from ⟨_,rfl⟩) (.cons (show dI (.str "lack") _ from ⟨_,rfl⟩) .nil))⟩) (.cons (.str _) (.cons (.str _) .nil)))⟩,⟨a_CONTRARY,Q9 X G n_CONTRARY,fun h X=>PyProof.Rows.KTD.text_of_look X aW⟩⟩
theorem zRG{K:Fg_}{h:Heap}{mg:Str->Option Value}{C_BadClaim:Addr}{C_BadLine:Addr}{C_BadWay:Addr}{C_BadWeights:Addr}{C_NoFraction:Addr}{C_Outside:Addr}{C_Unlike:Addr}(X:K.In h)(G:h.Ns mainGlobals mg)(n_BadClaim:PySem.W.nsIn K mainGlobals "BadClaim" = some (some (.ref C_BadClaim)))(x_BadClaim:PySem.W.excIn K C_BadClaim [.type "ValueError", .type "Exception", .type "BaseException", .type "object"] "ValueError.__new__" = true)(n_BadLine:PySem.W.nsIn K mainGlobals "BadLine" = some (some (.ref C_BadLine)))(x_BadLine:PySem.W.excIn K C_BadLine [.type "ValueError", .type "Exception", .type "BaseException", .type "object"] "ValueError.__new__" = true)(n_BadWay:PySem.W.nsIn K mainGlobals "BadWay" = some (some (.ref C_BadWay)))(x_BadWay:PySem.W.excIn K C_BadWay [.type "ValueError", .type "Exception", .type "BaseException", .type "object"] "ValueError.__new__" = true)(n_BadWeights:PySem.W.nsIn K mainGlobals "BadWeights" = some (some (.ref C_BadWeights)))(x_BadWeights:PySem.W.excIn K C_BadWeights [.type "ValueError", .type "Exception", .type "BaseException", .type "object"] "ValueError.__new__" = true)(n_NoFraction:PySem.W.nsIn K mainGlobals "NoFraction" = some (some (.ref C_NoFraction)))(x_NoFraction:PySem.W.excIn K C_NoFraction [.type "ValueError", .type "Exception", .type "BaseException", .type "object"] "ValueError.__new__" = true)(n_Outside:PySem.W.nsIn K mainGlobals "Outside" = some (some (.ref C_Outside)))(x_Outside:PySem.W.excIn K C_Outside [.type "ValueError", .type "Exception", .type "BaseException", .type "object"] "ValueError.__new__" = true)(n_Unlike:PySem.W.nsIn K mainGlobals "Unlike" = some (some (.ref C_Unlike)))(x_Unlike:PySem.W.excIn K C_Unlike [.type "ValueError", .type "Exception", .type "BaseException", .type "object"] "ValueError.__new__" = true):Rt K mg:=⟨vX X G n_BadClaim x_BadClaim VS,vX X G n_BadLine x_BadLine VS,vX X G n_BadWay x_BadWay VS,vX X G n_BadWeights x_BadWeights VS,vX X G n_NoFraction x_NoFraction VS,vX X G n_Outside x_Outside VS,vX X G n_Unlike x_Unlike VS⟩
theorem zRP{K:Fg_}{h:Heap}{mg:Str->Option Value}(X:K.In h)(G:h.Ns mainGlobals mg):Et K mg:=⟨⟩
section
variable(P:Program)(w:World){K:Fg_}{mg:Str->Option Value}(base:Heap)(k:Nat){f:Addr}{fd:FuncData}
theorem zIK:RankDef iW:=⟨rfl,rfl,rfl,rfl,rfl,fun _ _ _=>⟨_,_,rfl,rfl,rfl⟩⟩
section
variable(B:Bt mg)(KT:Kt K)(C:Ct K mg)(R:Rt K mg)(ET:Et K mg)
include B KT C R ET
theorem sN(F:Fn K mg "common_divisor" iN ["one","two"] f fd):CanM P w K mg base (k+1) "common_divisor" ["one","two"] dQ:=
  aO F cO fun cdv A outer s H E G W WR=>(aF (bB (i:=0) cO.nd rfl (Or.inl rfl) (aS uH zFa rfl B.abs boot_abs (aA (aJ 0) aE aB)))
 (aF (bB (i:=1) cO.nd rfl (Or.inl rfl) (aS uH zFa rfl B.abs boot_abs (aA (aJ 1) aE aB)))
 (aF (zAH W.own (tst (neA W.u) zKl (aJ 1) bE (aZ _)) (aF (bB (i:=2) cO.nd rfl (Or.inl rfl) (aU dE kN (aJ 0) (aJ 1)))
 (aF (bB (i:=0) cO.nd rfl (Or.inl rfl) (aJ 1))
 (aK (bB (i:=1) cO.nd rfl (Or.inl rfl) (aJ 2))))))
 (aK (bR (aJ 0))))))
theorem zKn(F:Fn K mg "whole" zDP ["number"] f fd):CanM P w K mg base (k+1) "whole" ["number"] bL:=
 aO F zKU fun cdv A outer s H E G W WR=>(aK (bR (eT (aA (aJ 0) (aA bE aE bM) aB))))
theorem zME(F:Fn K mg "less" zIQ ["one","two"] f fd):CanM P w K mg base (k+1) "less" ["one","two"] fJ:=
 aO F zNC fun cdv A outer s H E G W WR=>(aK (bR (oM pA zEs (aU bV gQ (eR 0) (eR 1)) (aU bV gQ (eR 1) (eR 0)) (aZ _))))
theorem zHs(F:Fn K mg "ranked" iW ["some"] f fd){T:Addr}(hT:rA K mg T)(hB:BMn base mg):CanR P w K mg base (k+1) jZ:=
 zNQ F qM zIK hT hB B.sorted B.range B.len rfl fun cdv A outer s H E G W WR=>⟨(bB (i:=1) qM.nd rfl (Or.inr rfl) bE),(kL W.own W.calm (iU (aJ 0)) (dO (i:=2) qM.nd rfl (Or.inl rfl)) bN (aK (bB (i:=1) qM.nd rfl (Or.inr rfl) (aU bV gQ (aJ 1) (eR 2)))))⟩
theorem zBt(F:Fn K mg "refuse_way" mX ["way"] f fd):CanM P w K mg base (k+1) "refuse_way" ["way"] eG:=
 aO F zBJ fun cdv A outer s H E G W WR=>(aK (hU (zLw C.CONTRARY.choose_spec rfl (aJ 0) (by with_unfolding_all rfl)) (aK (iM W WR R.BadWay rfl (aA (kQ cJ fun _=>.str _) aE bM))) bF))
theorem tR(F:Fn K mg "refuse_claims" jD ["claims"] f fd):CanM P w K mg base (k+1) "refuse_claims" ["claims"] eD:=
  aO F mG fun cdv A outer s H E G W WR=>(aF (hU (tst (eqA W.u) rD (aS aQ cU rfl B.len Qw (aA (aJ 0) aE aB)) bE (aZ _)) (aK (iM W WR R.BadClaim rfl (aA (kQ cJ fun _=>.str _) aE bM))) bF)
 (aK (kL W.own W.calm (iU (aJ 0)) (dO (i:=1) mG.nd rfl (Or.inl rfl)) bN (aK (hU (tst pA zEs (aJ 1) bE (aZ _)) (aK (iM W WR R.BadClaim rfl (aA (kQ cJ fun _=>.str _) aE bM))) bF)))))
theorem sM(F:Fn K mg "refuse_weights" iQ ["way","weights","many"] f fd):CanM P w K mg base (k+1) "refuse_weights" ["way","weights","many"] bT:=
  aO F gI fun cdv A outer s H E G W WR=>(aF (bB (i:=3) gI.nd rfl (Or.inl rfl) (zNx (tst (inA W.u) zSl (aJ 0) (bO rfl C.WEIGHTED) (by with_unfolding_all rfl)) (aJ 2) bE))
 (aF (hU (tst (neA W.u) zKl (aS aQ cU rfl B.len Qw (aA (aJ 1) aE aB)) (aJ 3) (aZ _)) (aK (iM W WR R.BadWeights rfl (aA (kQ cJ fun _=>.str _) aE bM))) bF)
 (aK (kL W.own W.calm (iU (aJ 1)) (dO (i:=4) gI.nd rfl (Or.inl rfl)) bN (aK (hU (PWd.pt (zIb (tst pA zEs (aJ 4) bE (aZ _)) (yJ (tst zHm zPH (aJ 4) (aU zBe zKZ bE bE) (aZ _))))) (aK (iM W WR R.BadWeights rfl (aA (kQ cJ fun _=>.str _) aE bM))) bF))))))
theorem zGQ(F:Fn K mg "is_boat" vQ ["custom"] f fd):CanM P w K mg base (k+1) "is_boat" ["custom"] cD:=
 aO F zGk fun cdv A outer s H E G W WR=>(aK (bR (oM (eqA W.u) rD (eR 0) (bO rfl C.BOAT) (aZ _))))
theorem zJc(F:Fn K mg "way_of" zBp ["custom"] f fd):CanM P w K mg base (k+1) "way_of" ["custom"] iX:=
 aO F zJN fun cdv A outer s H E G W WR=>(aK (bR (eR 0)))
theorem zAw(F:Fn K mg "weights_of" nO ["custom"] f fd):CanM P w K mg base (k+1) "weights_of" ["custom"] dA:=
 aO F zBw fun cdv A outer s H E G W WR=>(aK (bR (eR 0)))
theorem zHM(F:Fn K mg "length" zAe ["line"] f fd):CanM P w K mg base (k+1) "length" ["line"] lD:=
 aO F zJg fun cdv A outer s H E G W WR=>(aK (bR (aT aL bZ (aT aL bZ (aJ 0) (lY bE) (fun _ _=>rfl)) (bO rfl C.ACROSS) (fun _ _=>rfl))))
theorem zJT(F:Fn K mg "height" zAn ["line"] f fd):CanM P w K mg base (k+1) "height" ["line"] qJ:=
 aO F zIl fun cdv A outer s H E G W WR=>(aK (bR (aT aL bZ (aT aL bZ (aJ 0) (lY bE) (fun _ _=>rfl)) (bO rfl C.UP) (fun _ _=>rfl))))
theorem zHE(F:Fn K mg "places" uF ["line"] f fd):CanM P w K mg base (k+1) "places" ["line"] oF:=
 aO F zCm fun cdv A outer s H E G W WR=>(aK (eA (eY W zCm.nd rfl (sc:=aH uF) rfl rfl (by decide +kernel) (iU (aJ 0)) (fun C2 s2 H2 fp2 G W=>⟨kB,(aT aL bZ (aJ 1) (bO rfl C.ACROSS) (fun _ _=>rfl))⟩))))
theorem xL(F:Fn K mg "_law_cell_at" lH ["script","k"] f fd):CanM P w K mg base (k+1) "_law_cell_at" ["script","k"] fZ:=
  aO F xO fun cdv A outer s H E G W WR=>(aF (hU (tst pA zEs (aJ 1) (aS aQ cU rfl B.len Qw (aA (aJ 0) aE aB)) (aZ _)) (aK (bR (aT aL bZ (aJ 0) (aJ 1) (fun _ _=>rfl)))) bF)
 (aK (bR bE)))
theorem zEc(F:Fn K mg "_law_made" rK ["top","bottom"] f fd):CanM P w K mg base (k+1) "_law_made" ["top","bottom"] cP:=
  aO F fG fun cdv A outer s H E G W WR=>(aF (bB (i:=2) fG.nd rfl (Or.inl rfl) (aS uH zFa rfl B.abs boot_abs (aA (aJ 0) aE aB)))
 (aF (bB (i:=3) fG.nd rfl (Or.inl rfl) (aS uH zFa rfl B.abs boot_abs (aA (aJ 1) aE aB)))
 (aF (zAH W.own (tst zHm zPH (aJ 3) bE (aZ _)) (aF (bB (i:=4) fG.nd rfl (Or.inl rfl) (aU dE kN (aJ 2) (aJ 3)))
 (aF (bB (i:=2) fG.nd rfl (Or.inl rfl) (aJ 3))
 (aK (bB (i:=3) fG.nd rfl (Or.inl rfl) (aJ 4))))))
 (aF (hU (tst pA zEs (aJ 1) bE (aZ _)) (aK (bB (i:=2) fG.nd rfl (Or.inl rfl) (aU jJ pN bE (aJ 2)))) bF)
 (aK (bR (eT (aA (aU cS jS (aJ 0) (aJ 2)) (aA (aU cS jS (aJ 1) (aJ 2)) aE bJ) bJ))))))))
theorem zEd(F:Fn K mg "_law_less" rV ["one","two"] f fd):CanM P w K mg base (k+1) "_law_less" ["one","two"] fM:=
 aO F zEg fun cdv A outer s H E G W WR=>(aK (bR (oM pA zEs (aU bV gQ (eR 0) (eR 1)) (aU bV gQ (eR 1) (eR 0)) (aZ _))))
theorem zGl(F:Fn K mg "_law_mix" vM ["cell","k"] f fd):CanM P w K mg base (k+1) "_law_mix" ["cell","k"] nD:=
 aO F zGw fun cdv A outer s H E G W WR=>(aK (bR (aU dE kN (aU dZ mI (aU dZ mI (aU bV gQ (aJ 0) bE) (aU bV gQ bE (aJ 1))) bE) bE)))
theorem zDF(F:Fn K mg "_law_knot" nU ["kids","mix","plan"] f fd):CanM P w K mg base (k+1) "_law_knot" ["kids","mix","plan"] eP:=
  aO F gU fun cdv A outer s H E G W WR=>(aF (bB (i:=3) gU.nd rfl (Or.inl rfl) (aT aL bZ (PEf.d (cI (aA (kQ cJ fun _=>.str _) (aA (kQ cJ fun _=>.str _) (aA (kQ cJ fun _=>.str _) (aA (kQ cJ fun _=>.str _) (aA (kQ cJ fun _=>.str _) (aA (kQ cJ fun _=>.str _) aE bM) bM) bM) bM) bM) bM))) (aU dE kN (aU cS jS (aJ 1) bE) bE) (fun _ _=>rfl)))
 (aF (bB (i:=4) gU.nd rfl (Or.inl rfl) (eT aE))
 (aF (hU (tst (inA W.u) zSl (aJ 3) (eT (aA (kQ cJ fun _=>.str _) (aA (kQ cJ fun _=>.str _) aE bM) bM)) (by with_unfolding_all rfl)) (aF (bB (i:=5) gU.nd rfl (Or.inr rfl) (aT aL bZ (PEf.d (cI (aA bE (aA (aU zBe zKZ bE bE) aE bJ) bM))) (aU cS jS (aU dE kN (aU cS jS (aJ 2) bE) bE) bE) (fun _ _=>rfl)))
 (aK (bB (i:=4) gU.nd rfl (Or.inl rfl) (nQ iS zFt rfl B.tuple boot_tuple (aA (PEf.d (eY W gU.nd rfl (sc:=aH nU) rfl rfl (by decide +kernel) (zCM rfl B.range (aA (aS aQ cU rfl B.len Qw (aA (aJ 0) aE aB)) aE aM)) (fun C2 s2 H2 fp2 G W=>⟨kB,(aU dZ mI bE (aU dE kN (aU cS jS (aU dE kN (aU zBe zKZ (aU dZ mI (aU dZ mI (aJ 1) (aU bV gQ bE (aJ 6))) bE) bE) bE) bE) (aJ 5)))⟩))) aE))))) bF)
 (aK (bR (eT (aA (aJ 3) (aA (aJ 4) (aA (nQ iS zFt rfl B.tuple boot_tuple (aA (aJ 0) aE aB)) aE aM) aB) aB)))))))
theorem zOL(F:Fn K mg "made" zIV ["top","bottom"] f fd)(YG:CanM P w K mg base k "common_divisor" ["one","two"] dQ):CanM P w K mg base (k+1) "made" ["top","bottom"] jH:=
  aO F zED fun cdv A outer s H E G W WR=>(aF (hU (tst (eqA W.u) rD (aJ 1) bE (aZ _)) (aK (iM W WR R.NoFraction rfl (aA (kQ cJ fun _=>.str _) aE bM))) bF)
 (aF (bB (i:=2) zED.nd rfl (Or.inl rfl) (aI W YG rfl (aA (aJ 0) (aA (aJ 1) aE aB) aB)))
 (aF (hU (tst pA zEs (aJ 1) bE (aZ _)) (aK (bB (i:=2) zED.nd rfl (Or.inl rfl) (lY (aJ 2)))) bF)
 (aK (bR (eT (aA (aU cS jS (aJ 0) (aJ 2)) (aA (aU cS jS (aJ 1) (aJ 2)) aE bJ) bJ)))))))
theorem zHz(F:Fn K mg "lesser" zAL ["one","two"] f fd)(UM:CanM P w K mg base k "less" ["one","two"] fJ):CanM P w K mg base (k+1) "lesser" ["one","two"] lP:=
 aO F zJd fun cdv A outer s H E G W WR=>(aK (bR (zNx (sX (aI W UM rfl (aA (aJ 0) (aA (aJ 1) aE aB) aB))) (aJ 0) (aJ 1))))
theorem zAp(F:Fn K mg "is_outside" mU ["amount","most"] f fd)(UM:CanM P w K mg base k "less" ["one","two"] fJ):CanM P w K mg base (k+1) "is_outside" ["amount","most"] eE:=
 aO F zAv fun cdv A outer s H E G W WR=>(aK (bR (zRB (aI W UM rfl (aA (aJ 0) (aA (bO rfl C.NOUGHT) aE aB) aB)) (zMd (aI W UM rfl (aA (aJ 1) (aA (aJ 0) aE aB) aB))))))
theorem zIZ(F:Fn K mg "looked" zBH ["way","weights","claims"] f fd)(YY:CanM P w K mg base k "refuse_way" ["way"] eG)(YK:CanM P w K mg base k "refuse_claims" ["claims"] eD)(YI:CanM P w K mg base k "refuse_weights" ["way","weights","many"] bT):CanM P w K mg base (k+1) "looked" ["way","weights","claims"] lN:=
  aO F zIH fun cdv A outer s H E G W WR=>(aF (oO (aI W YY rfl (aA (aJ 0) aE aB)))
 (aF (oO (aI W YK rfl (aA (aJ 2) aE aB)))
 (aK (oO (aI W YI rfl (aA (aJ 0) (aA (aJ 1) (aA (aS aQ cU rfl B.len Qw (aA (aJ 2) aE aB)) aE aM) aB) aB))))))
theorem vA(F:Fn K mg "contrary_way" kP ["way"] f fd)(YY:CanM P w K mg base k "refuse_way" ["way"] eG):CanM P w K mg base (k+1) "contrary_way" ["way"] dR:=
  aO F uS fun cdv A outer s H E G W WR=>(aF (oO (aI W YY rfl (aA (aJ 0) aE aB)))
 (aK (bR (zMe C.CONTRARY.choose_spec rfl (aJ 0) (fun _ _=>rfl)))))
theorem zGC(F:Fn K mg "kids_of" uJ ["custom"] f fd)(Up:CanM P w K mg base k "is_boat" ["custom"] cD):CanM P w K mg base (k+1) "kids_of" ["custom"] dC:=
 aO F zGn fun cdv A outer s H E G W WR=>(aK (bR (zNx (sX (aI W Up rfl (aA (aJ 0) aE aB))) (eT aE) (eR 0))))
theorem zAl(F:Fn K mg "refuse_bad" nF ["points"] f fd)(UM:CanM P w K mg base k "less" ["one","two"] fJ):CanM P w K mg base (k+1) "refuse_bad" ["points"] iG:=
  aO F iT fun cdv A outer s H E G W WR=>(aF (hU (tst (eqA W.u) rD (aS aQ cU rfl B.len Qw (aA (aJ 0) aE aB)) bE (aZ _)) (aK (iM W WR R.BadLine rfl (aA (kQ cJ fun _=>.str _) aE bM))) bF)
 (aF (hU (tst (neA W.u) zKl (eR 0) (eT (aA (bO rfl C.NOUGHT) (aA (bO rfl C.NOUGHT) aE aB) aB)) (aZ _)) (aK (iM W WR R.BadLine rfl (aA (kQ cJ fun _=>.str _) aE bM))) bF)
 (aK (kL W.own W.calm (zIM rfl B.range (aA bE (aA (aS aQ cU rfl B.len Qw (aA (aJ 0) aE aB)) aE aM) bM)) (dO (i:=1) iT.nd rfl (Or.inl rfl)) bN (aF (bB (i:=2) iT.nd rfl (Or.inl rfl) (aT aL bZ (aJ 0) (aU jJ pN (aJ 1) bE) (fun _ _=>rfl)))
 (aF (bB (i:=3) iT.nd rfl (Or.inl rfl) (aT aL bZ (aJ 0) (aJ 1) (fun _ _=>rfl)))
 (aF (hU (zHh (sX (aI W UM rfl (aA (aT aL bZ (aJ 2) (bO rfl C.ACROSS) (fun _ _=>rfl)) (aA (aT aL bZ (aJ 3) (bO rfl C.ACROSS) (fun _ _=>rfl)) aE aN) aN)))) (aK (iM W WR R.BadLine rfl (aA (kQ cJ fun _=>.str _) aE bM))) bF)
 (aK (hU (sX (aI W UM rfl (aA (aT aL bZ (aJ 3) (bO rfl C.UP) (fun _ _=>rfl)) (aA (aT aL bZ (aJ 2) (bO rfl C.UP) (fun _ _=>rfl)) aE aN) aN))) (aK (iM W WR R.BadLine rfl (aA (kQ cJ fun _=>.str _) aE bM))) bF)))))))))
theorem rY(F:Fn K mg "first_reaching" iO ["line","axis","amount"] f fd)(UM:CanM P w K mg base k "less" ["one","two"] fJ):CanM P w K mg base (k+1) "first_reaching" ["line","axis","amount"] dP:=
  aO F cQ fun cdv A outer s H E G W WR=>(aF (bB (i:=3) cQ.nd rfl (Or.inl rfl) bE)
 (aF (bB (i:=4) cQ.nd rfl (Or.inl rfl) (aU jJ pN (aS aQ cU rfl B.len Qw (aA (aJ 0) aE aB)) bE))
 (aF (zAH W.own (tst pA zEs (aJ 3) (aJ 4) (aZ _)) (aF (bB (i:=5) cQ.nd rfl (Or.inl rfl) (aU cS jS (aU dZ mI (aJ 3) (aJ 4)) bE))
 (aK (hU (sX (aI W UM rfl (aA (aT aL bZ (aT aL bZ (aJ 0) (aJ 5) (fun _ _=>rfl)) (aJ 1) (fun _ _=>rfl)) (aA (aJ 2) aE aB) aN))) (aK (bB (i:=3) cQ.nd rfl (Or.inl rfl) (aU dZ mI (aJ 5) bE))) (aK (bB (i:=4) cQ.nd rfl (Or.inl rfl) (aJ 5)))))))
 (aK (bR (aJ 3))))))
theorem zJr(F:Fn K mg "merged" zZ ["one","two"] f fd)(UM:CanM P w K mg base k "less" ["one","two"] fJ):CanM P w K mg base (k+1) "merged" ["one","two"] rC:=
  aO F kY fun cdv A outer s H E G W WR=>(aF (pM (i:=2) kY.nd rfl (Or.inl rfl) (cI aE))
 (aF (bB (i:=3) kY.nd rfl (Or.inl rfl) bE)
 (aF (kL W.own W.calm (iU (aJ 0)) (dO (i:=4) kY.nd rfl (Or.inl rfl)) bN (aF (zAH W.own (PWd.pt (zGL (tst pA zEs (aJ 3) (aS aQ cU rfl B.len Qw (aA (aJ 1) aE aB)) (aZ _)) (yZ (sX (aI W UM rfl (aA (aT aL bZ (aJ 1) (aJ 3) (fun _ _=>rfl)) (aA (aJ 4) aE aB) aN)))))) (aF (yA (i:=2) (pv 2) (aT aL bZ (aJ 1) (aJ 3) (fun _ _=>rfl)))
 (aK (zHd (i:=3) kY.nd rfl (Or.inl rfl) bE zFC zAK uD))))
 (aF (hU (PWd.pt (zGL (tst pA zEs (aJ 3) (aS aQ cU rfl B.len Qw (aA (aJ 1) aE aB)) (aZ _)) (yZ (tst (eqA W.u) rD (aT aL bZ (aJ 1) (aJ 3) (fun _ _=>rfl)) (aJ 4) (aZ _))))) (aK (zHd (i:=3) kY.nd rfl (Or.inl rfl) bE zFC zAK uD)) bF)
 (aK (yA (i:=2) (pv 2) (aJ 4))))))
 (aF (zJK (i:=2) (pv 2) (lG (aJ 1) (nJ (aJ 3)) sK))
 (aK (gZ 2 (pv 2)))))))
theorem zU(F:Fn K mg "row_joints" mT ["claims"] f fd)(UH:CanM P w K mg base k "whole" ["number"] bL):CanM P w K mg base (k+1) "row_joints" ["claims"] fO:=
  aO F gC fun cdv A outer s H E G W WR=>(aF (bB (i:=1) gC.nd rfl (Or.inl rfl) bE)
 (aF (pM (i:=2) gC.nd rfl (Or.inl rfl) (cI (aA (bO rfl C.NOUGHT) aE aB)))
 (aF (kL W.own W.calm (iU (aJ 0)) (dO (i:=3) gC.nd rfl (Or.inl rfl)) bN (aF (zHd (i:=1) gC.nd rfl (Or.inl rfl) (aJ 3) zFC zAK uD)
 (aK (yA (i:=2) (pv 2) (aI W UH rfl (aA (aJ 1) aE aB))))))
 (aK (gZ 2 (pv 2))))))
theorem qE(F:Fn K mg "without_doubles" gO ["joints"] f fd)(UM:CanM P w K mg base k "less" ["one","two"] fJ):CanM P w K mg base (k+1) "without_doubles" ["joints"] dF:=
  aO F fT fun cdv A outer s H E G W WR=>(aF (pM (i:=1) fT.nd rfl (Or.inl rfl) (lG (aJ 0) sK (nJ bE)))
 (aF (kL W.own W.calm (iU (aJ 0)) (dO (i:=2) fT.nd rfl (Or.inl rfl)) bN (aK (hU (PTd.frz (sX (aI W UM rfl (aA (aT aL bZ (aJ 1) (lY bE) (fun _ _=>rfl)) (aA (aJ 2) aE aB) aN)))) (aK (yA (i:=1) (pv 1) (aJ 2))) bF)))
 (aK (gZ 1 (pv 1)))))
theorem zEp(F:Fn K mg "_law_plus" sE ["one","two"] f fd)(Uf:CanM P w K mg base k "_law_made" ["top","bottom"] cP):CanM P w K mg base (k+1) "_law_plus" ["one","two"] lA:=
 aO F zDY fun cdv A outer s H E G W WR=>(aK (bR (aI W Uf rfl (aA (aU dZ mI (aU bV gQ (eR 0) (eR 1)) (aU bV gQ (eR 1) (eR 0))) (aA (aU bV gQ (eR 0) (eR 1)) aE bJ) bJ))))
theorem zCz(F:Fn K mg "_law_minus" oZ ["one","two"] f fd)(Uf:CanM P w K mg base k "_law_made" ["top","bottom"] cP):CanM P w K mg base (k+1) "_law_minus" ["one","two"] cA:=
 aO F zCG fun cdv A outer s H E G W WR=>(aK (bR (aI W Uf rfl (aA (aU jJ pN (aU bV gQ (eR 0) (eR 1)) (aU bV gQ (eR 1) (eR 0))) (aA (aU bV gQ (eR 0) (eR 1)) aE bJ) bJ))))
theorem zCH(F:Fn K mg "_law_times" oW ["one","two"] f fd)(Uf:CanM P w K mg base k "_law_made" ["top","bottom"] cP):CanM P w K mg base (k+1) "_law_times" ["one","two"] cT:=
 aO F zBN fun cdv A outer s H E G W WR=>(aK (bR (aI W Uf rfl (aA (aU bV gQ (eR 0) (eR 1)) (aA (aU bV gQ (eR 0) (eR 1)) aE bJ) bJ))))
theorem qG(F:Fn K mg "_law_is_fraction" gX ["found"] f fd)(Uf:CanM P w K mg base k "_law_made" ["top","bottom"] cP):CanM P w K mg base (k+1) "_law_is_fraction" ["found"] cM:=
  aO F kG fun cdv A outer s H E G W WR=>(aF (hU (PWd.pt (zIb (zHh (sX (yW KT.tuple rfl B.isinstance (aJ 0) (rX (v:=.ty "tuple") rfl B.tuple boot_tuple rfl)))) (yJ (tst (neA W.u) zKl (aS aQ cU rfl B.len Qw (aA (aJ 0) aE aB)) bE (aZ _))))) (aK (bR (kQ zBF fun _=>.bl _))) bF)
 (aF (kL W.own W.calm (iU (aJ 0)) (dO (i:=1) kG.nd rfl (Or.inl rfl)) bN (aK (hU (PWd.pt (zIb (zHh (sX (yW KT.int rfl B.isinstance (aJ 1) (rX (v:=.ty "int") rfl B.int boot_int rfl)))) (yJ (sX (yW KT.bool rfl B.isinstance (aJ 1) (rX (v:=.ty "bool") rfl B.bool boot_bool rfl)))))) (aK (bR (kQ zBF fun _=>.bl _))) bF)))
 (aK (bR (zQY (oM zHm zPH (eR 0) bE (aZ _)) (zMd (oM (eqA W.u) rD (aI W Uf rfl (aA (eR 0) (aA (eR 0) aE aN) aN)) (aJ 0) (aZ _))))))))
theorem zMT(F:Fn K mg "plus" zJL ["one","two"] f fd)(UK:CanM P w K mg base k "made" ["top","bottom"] jH):CanM P w K mg base (k+1) "plus" ["one","two"] mF:=
 aO F zMQ fun cdv A outer s H E G W WR=>(aK (bR (aI W UK rfl (aA (aU dZ mI (aU bV gQ (eR 0) (eR 1)) (aU bV gQ (eR 1) (eR 0))) (aA (aU bV gQ (eR 0) (eR 1)) aE bJ) bJ))))
theorem zKp(F:Fn K mg "minus" zEE ["one","two"] f fd)(UK:CanM P w K mg base k "made" ["top","bottom"] jH):CanM P w K mg base (k+1) "minus" ["one","two"] cV:=
 aO F zLv fun cdv A outer s H E G W WR=>(aK (bR (aI W UK rfl (aA (aU jJ pN (aU bV gQ (eR 0) (eR 1)) (aU bV gQ (eR 1) (eR 0))) (aA (aU bV gQ (eR 0) (eR 1)) aE bJ) bJ))))
theorem zKt(F:Fn K mg "times" zEL ["one","two"] f fd)(UK:CanM P w K mg base k "made" ["top","bottom"] jH):CanM P w K mg base (k+1) "times" ["one","two"] dN:=
 aO F zLr fun cdv A outer s H E G W WR=>(aK (bR (aI W UK rfl (aA (aU bV gQ (eR 0) (eR 1)) (aA (aU bV gQ (eR 0) (eR 1)) aE bJ) bJ))))
theorem zMU(F:Fn K mg "over" zHt ["one","two"] f fd)(UK:CanM P w K mg base k "made" ["top","bottom"] jH):CanM P w K mg base (k+1) "over" ["one","two"] qP:=
 aO F zOJ fun cdv A outer s H E G W WR=>(aK (bR (aI W UK rfl (aA (aU bV gQ (eR 0) (eR 1)) (aA (aU bV gQ (eR 0) (eR 1)) aE bJ) bJ))))
theorem rQ(F:Fn K mg "refuse_outside" iP ["amount","most"] f fd)(YR:CanM P w K mg base k "is_outside" ["amount","most"] eE):CanM P w K mg base (k+1) "refuse_outside" ["amount","most"] bH:=
 aO F rO fun cdv A outer s H E G W WR=>(aK (hU (sX (aI W YR rfl (aA (aJ 0) (aA (aJ 1) aE aB) aB))) (aK (iM W WR R.Outside rfl (aA (kQ cJ fun _=>.str _) aE bM))) bF))
theorem zDt(F:Fn K mg "levels_of" lO ["weights","claims"] f fd)(UK:CanM P w K mg base k "made" ["top","bottom"] jH):CanM P w K mg base (k+1) "levels_of" ["weights","claims"] eH:=
 aO F zCR fun cdv A outer s H E G W WR=>(aK (eA (uT (N:=["weights","claims"]) W (by decide +kernel) rfl (sc:=aH lO) rfl rfl (by decide +kernel) (zGA rfl B.zip (aA (aJ 1) (aA (aJ 0) aE aB) aB)) (fun C2 s2 H2 fp2 G W=>(aI W UK rfl (aA (aJ 2) (aA (aJ 3) aE aB) aB))))))
theorem zAI(F:Fn K mg "_law_fewest" nL ["points"] f fd)(Ua:CanM P w K mg base k "_law_minus" ["one","two"] cA)(Uc:CanM P w K mg base k "_law_times" ["one","two"] cT):CanM P w K mg base (k+1) "_law_fewest" ["points"] iA:=
  aO F cE fun cdv A outer s H E G W WR=>(aF (pM (i:=1) cE.nd rfl (Or.inl rfl) (cI (aA (eR 0) aE aN)))
 (aF (kL W.own W.calm (zIM rfl B.range (aA bE (aA (aS aQ cU rfl B.len Qw (aA (aJ 0) aE aB)) aE aM) bM)) (dO (i:=2) cE.nd rfl (Or.inl rfl)) bN (aF (bB (i:=3) cE.nd rfl (Or.inl rfl) (kQ zBF fun _=>.bl _))
 (aF (hU (tst pA zEs (aU dZ mI (aJ 2) bE) (aS aQ cU rfl B.len Qw (aA (aJ 0) aE aB)) (aZ _)) (aF (bB (i:=4) cE.nd rfl (Or.inl rfl) (aI W Ua rfl (aA (aT aL bZ (aT aL bZ (aJ 0) (aJ 2) (fun _ _=>rfl)) bE (fun _ _=>rfl)) (aA (aT aL bZ (aT aL bZ (aJ 0) (aU jJ pN (aJ 2) bE) (fun _ _=>rfl)) bE (fun _ _=>rfl)) aE aN) aN)))
 (aF (bB (i:=5) cE.nd rfl (Or.inl rfl) (aI W Ua rfl (aA (aT aL bZ (aT aL bZ (aJ 0) (aJ 2) (fun _ _=>rfl)) bE (fun _ _=>rfl)) (aA (aT aL bZ (aT aL bZ (aJ 0) (aU jJ pN (aJ 2) bE) (fun _ _=>rfl)) bE (fun _ _=>rfl)) aE aN) aN)))
 (aF (bB (i:=6) cE.nd rfl (Or.inl rfl) (aI W Ua rfl (aA (aT aL bZ (aT aL bZ (aJ 0) (aU dZ mI (aJ 2) bE) (fun _ _=>rfl)) bE (fun _ _=>rfl)) (aA (aT aL bZ (aT aL bZ (aJ 0) (aJ 2) (fun _ _=>rfl)) bE (fun _ _=>rfl)) aE aN) aN)))
 (aF (bB (i:=7) cE.nd rfl (Or.inl rfl) (aI W Ua rfl (aA (aT aL bZ (aT aL bZ (aJ 0) (aU dZ mI (aJ 2) bE) (fun _ _=>rfl)) bE (fun _ _=>rfl)) (aA (aT aL bZ (aT aL bZ (aJ 0) (aJ 2) (fun _ _=>rfl)) bE (fun _ _=>rfl)) aE aN) aN)))
 (aK (bB (i:=3) cE.nd rfl (Or.inl rfl) (oM (eqA W.u) rD (aI W Uc rfl (aA (aJ 5) (aA (aJ 6) aE aB) aB)) (aI W Uc rfl (aA (aJ 7) (aA (aJ 4) aE aB) aB)) (aZ _)))))))) bF)
 (aK (hU (zHh (sX (aJ 3))) (aK (yA (i:=1) (pv 1) (aT aL bZ (aJ 0) (aJ 2) (fun _ _=>rfl)))) bF)))))
 (aK (bR (nQ iS zFt rfl B.tuple boot_tuple (aA (aJ 1) aE aB))))))
theorem zCL(F:Fn K mg "_law_value" pJ ["line","x"] f fd)(Ug:CanM P w K mg base k "_law_less" ["one","two"] fM)(Ua:CanM P w K mg base k "_law_minus" ["one","two"] cA)(Uc:CanM P w K mg base k "_law_times" ["one","two"] cT)(Ue:CanM P w K mg base k "_law_plus" ["one","two"] lA):CanM P w K mg base (k+1) "_law_value" ["line","x"] fI:=
  aO F iE fun cdv A outer s H E G W WR=>(aF (kL W.own W.calm (zCM rfl B.range (aA (aS aQ cU rfl B.len Qw (aA (aJ 0) aE aB)) aE aM)) (dO (i:=2) iE.nd rfl (Or.inl rfl)) bN (aF (hU (tst (eqA W.u) rD (aT aL bZ (aT aL bZ (aJ 0) (aJ 2) (fun _ _=>rfl)) bE (fun _ _=>rfl)) (aJ 1) (aZ _)) (aK (bR (aT aL bZ (aT aL bZ (aJ 0) (aJ 2) (fun _ _=>rfl)) bE (fun _ _=>rfl)))) bF)
 (aK (hU (PWd.pt (zGL (tst zHm zPH (aJ 2) bE (aZ _)) (yZ (sX (aI W Ug rfl (aA (aJ 1) (aA (aT aL bZ (aT aL bZ (aJ 0) (aJ 2) (fun _ _=>rfl)) bE (fun _ _=>rfl)) aE aN) aB)))))) (aF (bB (i:=3) iE.nd rfl (Or.inl rfl) (aI W Ua rfl (aA (aT aL bZ (aT aL bZ (aJ 0) (aJ 2) (fun _ _=>rfl)) bE (fun _ _=>rfl)) (aA (aT aL bZ (aT aL bZ (aJ 0) (aU jJ pN (aJ 2) bE) (fun _ _=>rfl)) bE (fun _ _=>rfl)) aE aN) aN)))
 (aF (bB (i:=4) iE.nd rfl (Or.inl rfl) (aI W Ua rfl (aA (aT aL bZ (aT aL bZ (aJ 0) (aJ 2) (fun _ _=>rfl)) bE (fun _ _=>rfl)) (aA (aT aL bZ (aT aL bZ (aJ 0) (aU jJ pN (aJ 2) bE) (fun _ _=>rfl)) bE (fun _ _=>rfl)) aE aN) aN)))
 (aF (bB (i:=5) iE.nd rfl (Or.inl rfl) (aI W Uc rfl (aA (aI W Ua rfl (aA (aJ 1) (aA (aT aL bZ (aT aL bZ (aJ 0) (aU jJ pN (aJ 2) bE) (fun _ _=>rfl)) bE (fun _ _=>rfl)) aE aN) aB)) (aA (eT (aA (eR 3) (aA (eR 3) aE aN) aN)) aE nT) aM)))
 (aK (bR (aI W Ue rfl (aA (aT aL bZ (aT aL bZ (aJ 0) (aU jJ pN (aJ 2) bE) (fun _ _=>rfl)) bE (fun _ _=>rfl)) (aA (aI W Uc rfl (aA (aJ 5) (aA (aJ 4) aE aB) aB)) aE aM) aN))))))) bF))))
 (aK (bR (aT aL bZ (aT aL bZ (aJ 0) (lY bE) (fun _ _=>rfl)) bE (fun _ _=>rfl)))))
theorem zCu(F:Fn K mg "_law_place" oT ["cell","line"] f fd)(Uc:CanM P w K mg base k "_law_times" ["one","two"] cT)(Uf:CanM P w K mg base k "_law_made" ["top","bottom"] cP):CanM P w K mg base (k+1) "_law_place" ["cell","line"] jI:=
  aO F iH fun cdv A outer s H E G W WR=>(aF (bB (i:=2) iH.nd rfl (Or.inl rfl) (aU dE kN (aU dZ mI (aU bV gQ (aJ 0) bE) bE) bE))
 (aF (bB (i:=3) iH.nd rfl (Or.inl rfl) (aU dZ mI bE (aU dE kN (aU cS jS (aJ 2) bE) bE)))
 (aF (bB (i:=4) iH.nd rfl (Or.inl rfl) (aI W Uc rfl (aA (aT aL bZ (aT aL bZ (aJ 1) (lY bE) (fun _ _=>rfl)) bE (fun _ _=>rfl)) (aA (aI W Uf rfl (aA (aU dE kN (aU cS jS (aJ 2) bE) (aU dZ mI (aJ 3) bE)) (aA (aJ 3) aE aB) bJ)) aE aM) aN)))
 (aF (hU (tst (eqA W.u) rD (aU dE kN (aU cS jS (aJ 2) bE) bE) bE (aZ _)) (aK (bB (i:=4) iH.nd rfl (Or.inl rfl) (aT aL bZ (aT aL bZ (aJ 1) (aU dE kN (aU cS jS (aJ 2) bE) (aS aQ cU rfl B.len Qw (aA (aJ 1) aE aB))) (fun _ _=>rfl)) bE (fun _ _=>rfl)))) bF)
 (aK (bR (aJ 4)))))))
theorem zDf(F:Fn K mg "row_dealt" pK ["claims","catch"] f fd)(UA:CanM P w K mg base k "lesser" ["one","two"] lP)(UF:CanM P w K mg base k "minus" ["one","two"] cV)(UH:CanM P w K mg base k "whole" ["number"] bL):CanM P w K mg base (k+1) "row_dealt" ["claims","catch"] gM:=
  aO F fQ fun cdv A outer s H E G W WR=>(aF (bB (i:=2) fQ.nd rfl (Or.inl rfl) (aJ 1))
 (aF (pM (i:=3) fQ.nd rfl (Or.inl rfl) (cI aE))
 (aF (kL W.own W.calm (iU (aJ 0)) (dO (i:=4) fQ.nd rfl (Or.inl rfl)) bN (aF (bB (i:=5) fQ.nd rfl (Or.inl rfl) (aI W UA rfl (aA (aJ 2) (aA (aI W UH rfl (aA (aJ 4) aE aB)) aE aM) aB)))
 (aF (yA (i:=3) (pv 3) (aJ 5))
 (aK (bB (i:=2) fQ.nd rfl (Or.inl rfl) (aI W UF rfl (aA (aJ 2) (aA (aJ 5) aE aB) aB)))))))
 (aK (gZ 3 (pv 3))))))
theorem zBr(F:Fn K mg "even_dealt" nE ["weights","claims","catch"] f fd)(Uy:CanR P w K mg base k jZ)(Y5:CanM P w K mg base k "levels_of" ["weights","claims"] eH)(UL:CanM P w K mg base k "over" ["one","two"] qP)(UA:CanM P w K mg base k "lesser" ["one","two"] lP)(UF:CanM P w K mg base k "minus" ["one","two"] cV)(UE:CanM P w K mg base k "times" ["one","two"] dN)(UH:CanM P w K mg base k "whole" ["number"] bL):CanM P w K mg base (k+1) "even_dealt" ["weights","claims","catch"] dJ:=
  aO F cX fun cdv A outer s H E G W WR=>(aF (bB (i:=3) cX.nd rfl (Or.inl rfl) (aJ 2))
 (aF (bB (i:=4) cX.nd rfl (Or.inl rfl) (aS (kE W.calm) tI rfl B.sum iC (aA (aJ 0) aE aB)))
 (aF (pM (i:=5) cX.nd rfl (Or.inl rfl) (zFg (cI (aA (bO rfl C.NOUGHT) aE aB)) (aS aQ cU rfl B.len Qw (aA (aJ 1) aE aB))))
 (zJa W Uy zPb zLC rfl (aA (PEf.d (bI W Y5 rfl (aA (aJ 0) (aA (aJ 1) aE aB) aB))) aE aM) (dO (i:=6) cX.nd rfl (Or.inl rfl)) bN (aF (bB (i:=7) cX.nd rfl (Or.inl rfl) (aI W UL rfl (aA (aI W UE rfl (aA (aJ 3) (aA (aI W UH rfl (aA (aT aL bZ (aJ 0) (aJ 6) (fun _ _=>rfl)) aE aN)) aE aM) aB)) (aA (aI W UH rfl (aA (aJ 4) aE aB)) aE aM) aM)))
 (aF (zRm (i:=5) (pv 5) (aJ 6) (aI W UA rfl (aA (aJ 7) (aA (aI W UH rfl (aA (aT aL bZ (aJ 1) (aJ 6) (fun _ _=>rfl)) aE aN)) aE aM) aB)))
 (aF (bB (i:=3) cX.nd rfl (Or.inl rfl) (PEd.frz (aI W UF rfl (aA (aJ 3) (aA (aT aL bZ (aJ 5) (aJ 6) (fun _ _=>rfl)) aE aN) aB))))
 (aK (zHd (i:=4) cX.nd rfl (Or.inl rfl) (aT aL bZ (aJ 0) (aJ 6) (fun _ _=>rfl)) zMn zJW zFb))))) (aK (gZ 5 (pv 5)))))))
theorem zBm(F:Fn K mg "part_dealt" kC ["claims","catch"] f fd)(UL:CanM P w K mg base k "over" ["one","two"] qP)(UH:CanM P w K mg base k "whole" ["number"] bL)(UE:CanM P w K mg base k "times" ["one","two"] dN):CanM P w K mg base (k+1) "part_dealt" ["claims","catch"] fK:=
  aO F iR fun cdv A outer s H E G W WR=>(aF (bB (i:=2) iR.nd rfl (Or.inl rfl) (aS (kE W.calm) tI rfl B.sum iC (aA (aJ 0) aE aB)))
 (aF (hU (tst (eqA W.u) rD (aJ 2) bE (aZ _)) (aK (eA (zFg (cI (aA (bO rfl C.NOUGHT) aE aB)) (aS aQ cU rfl B.len Qw (aA (aJ 0) aE aB))))) bF)
 (aF (bB (i:=3) iR.nd rfl (Or.inr rfl) (aI W UL rfl (aA (aJ 1) (aA (aI W UH rfl (aA (aJ 2) aE aB)) aE aM) aB)))
 (aK (eA (eY W iR.nd rfl (sc:=aH kC) rfl rfl (by decide +kernel) (iU (aJ 0)) (fun C2 s2 H2 fp2 G W=>⟨kB,(aI W UE rfl (aA (aJ 3) (aA (aI W UH rfl (aA (aJ 4) aE aB)) aE aM) aB))⟩)))))))
theorem zN(F:Fn K mg "is_between" nG ["ahead","point","later"] f fd)(UF:CanM P w K mg base k "minus" ["one","two"] cV)(UE:CanM P w K mg base k "times" ["one","two"] dN):CanM P w K mg base (k+1) "is_between" ["ahead","point","later"] hJ:=
  aO F fX fun cdv A outer s H E G W WR=>(aF (bB (i:=3) fX.nd rfl (Or.inl rfl) (aI W UF rfl (aA (aT aL bZ (aJ 1) (bO rfl C.UP) (fun _ _=>rfl)) (aA (aT aL bZ (aJ 0) (bO rfl C.UP) (fun _ _=>rfl)) aE aN) aN)))
 (aF (bB (i:=4) fX.nd rfl (Or.inl rfl) (aI W UF rfl (aA (aT aL bZ (aJ 2) (bO rfl C.UP) (fun _ _=>rfl)) (aA (aT aL bZ (aJ 1) (bO rfl C.UP) (fun _ _=>rfl)) aE aN) aN)))
 (aF (bB (i:=5) fX.nd rfl (Or.inl rfl) (aI W UF rfl (aA (aT aL bZ (aJ 1) (bO rfl C.ACROSS) (fun _ _=>rfl)) (aA (aT aL bZ (aJ 0) (bO rfl C.ACROSS) (fun _ _=>rfl)) aE aN) aN)))
 (aF (bB (i:=6) fX.nd rfl (Or.inl rfl) (aI W UF rfl (aA (aT aL bZ (aJ 2) (bO rfl C.ACROSS) (fun _ _=>rfl)) (aA (aT aL bZ (aJ 1) (bO rfl C.ACROSS) (fun _ _=>rfl)) aE aN) aN)))
 (aK (bR (oM (eqA W.u) rD (aI W UE rfl (aA (aJ 3) (aA (aJ 6) aE aB) aB)) (aI W UE rfl (aA (aJ 4) (aA (aJ 5) aE aB) aB)) (aZ _))))))))
theorem zQZ(F:Fn K mg "met" zNh ["line","axis","amount"] f fd)(YH:CanM P w K mg base k "first_reaching" ["line","axis","amount"] dP)(UL:CanM P w K mg base k "over" ["one","two"] qP)(UJ:CanM P w K mg base k "plus" ["one","two"] mF)(UF:CanM P w K mg base k "minus" ["one","two"] cV)(UE:CanM P w K mg base k "times" ["one","two"] dN):CanM P w K mg base (k+1) "met" ["line","axis","amount"] uN:=
  aO F zD fun cdv A outer s H E G W WR=>(aF (bB (i:=3) zD.nd rfl (Or.inl rfl) (aU jJ pN bE (aJ 1)))
 (aF (bB (i:=4) zD.nd rfl (Or.inl rfl) (aI W YH rfl (aA (aJ 0) (aA (aJ 1) (aA (aJ 2) aE aB) aB) aB)))
 (aF (bB (i:=5) zD.nd rfl (Or.inl rfl) (aT aL bZ (aJ 0) (aJ 4) (fun _ _=>rfl)))
 (aF (hU (tst (eqA W.u) rD (aT aL bZ (aJ 5) (aJ 1) (fun _ _=>rfl)) (aJ 2) (aZ _)) (aK (bR (aT aL bZ (aJ 5) (aJ 3) (fun _ _=>rfl)))) bF)
 (aF (bB (i:=6) zD.nd rfl (Or.inl rfl) (aT aL bZ (aJ 0) (aU jJ pN (aJ 4) bE) (fun _ _=>rfl)))
 (aF (bB (i:=7) zD.nd rfl (Or.inl rfl) (aI W UL rfl (aA (aI W UF rfl (aA (aJ 2) (aA (aT aL bZ (aJ 6) (aJ 1) (fun _ _=>rfl)) aE aN) aB)) (aA (aI W UF rfl (aA (aT aL bZ (aJ 5) (aJ 1) (fun _ _=>rfl)) (aA (aT aL bZ (aJ 6) (aJ 1) (fun _ _=>rfl)) aE aN) aN)) aE aM) aM)))
 (aK (bR (aI W UJ rfl (aA (aT aL bZ (aJ 6) (aJ 3) (fun _ _=>rfl)) (aA (aI W UE rfl (aA (aJ 7) (aA (aI W UF rfl (aA (aT aL bZ (aJ 5) (aJ 3) (fun _ _=>rfl)) (aA (aT aL bZ (aJ 6) (aJ 3) (fun _ _=>rfl)) aE aN) aN)) aE aM) aB)) aE aM) aN))))))))))
theorem xB(F:Fn K mg "even_joints" lQ ["weights","claims"] f fd)(Y5:CanM P w K mg base k "levels_of" ["weights","claims"] eH)(Uy:CanR P w K mg base k jZ)(UJ:CanM P w K mg base k "plus" ["one","two"] mF)(UH:CanM P w K mg base k "whole" ["number"] bL)(UE:CanM P w K mg base k "times" ["one","two"] dN):CanM P w K mg base (k+1) "even_joints" ["weights","claims"] dL:=
  aO F cK fun cdv A outer s H E G W WR=>(aF (bB (i:=2) cK.nd rfl (Or.inl rfl) bE)
 (aF (bB (i:=3) cK.nd rfl (Or.inl rfl) (aS (kE W.calm) tI rfl B.sum iC (aA (aJ 0) aE aB)))
 (aF (bB (i:=4) cK.nd rfl (Or.inl rfl) (PEf.d (bI W Y5 rfl (aA (aJ 0) (aA (aJ 1) aE aB) aB))))
 (aF (pM (i:=5) cK.nd rfl (Or.inl rfl) (cI (aA (bO rfl C.NOUGHT) aE aB)))
 (zJa W Uy zPb zLC rfl (aA (aJ 4) aE aB) (dO (i:=6) cK.nd rfl (Or.inl rfl)) bN (aF (yA (i:=5) (pv 5) (aI W UJ rfl (aA (aI W UH rfl (aA (aJ 2) aE aB)) (aA (aI W UE rfl (aA (aT aL bZ (aJ 4) (aJ 6) (fun _ _=>rfl)) (aA (aI W UH rfl (aA (aJ 3) aE aB)) aE aM) aN)) aE aM) aM)))
 (aF (zHd (i:=2) cK.nd rfl (Or.inl rfl) (aT aL bZ (aJ 1) (aJ 6) (fun _ _=>rfl)) zFC zAK uD)
 (aK (zHd (i:=3) cK.nd rfl (Or.inl rfl) (aT aL bZ (aJ 0) (aJ 6) (fun _ _=>rfl)) zMn zJW zFb)))) (aK (gZ 5 (pv 5))))))))
theorem zEP(F:Fn K mg "mirrored" nV ["joints","most"] f fd)(UF:CanM P w K mg base k "minus" ["one","two"] cV):CanM P w K mg base (k+1) "mirrored" ["joints","most"] gH:=
 aO F wK fun cdv A outer s H E G W WR=>(aK (eA (eY W wK.nd rfl (sc:=aH nV) rfl rfl (by decide +kernel) (zPm rfl B.reversed (aJ 0)) (fun C2 s2 H2 fp2 G W=>⟨kB,(aI W UF rfl (aA (aJ 1) (aA (aJ 2) aE aB) aB))⟩))))
theorem zDR(F:Fn K mg "_law_fine" sJ ["found"] f fd)(YW:CanM P w K mg base k "_law_fewest" ["points"] iA)(Ug:CanM P w K mg base k "_law_less" ["one","two"] fM)(YF:CanM P w K mg base k "_law_is_fraction" ["found"] cM):CanM P w K mg base (k+1) "_law_fine" ["found"] iZ:=
  aO F oR fun cdv A outer s H E G W WR=>(aF (hU (PWd.pt (zIb (zHh (sX (yW KT.tuple rfl B.isinstance (aJ 0) (rX (v:=.ty "tuple") rfl B.tuple boot_tuple rfl)))) (zIb (tst pA zEs (aS aQ cU rfl B.len Qw (aA (aJ 0) aE aB)) bE (aZ _)) (yJ (tst (neA W.u) zKl (eR 0) (eT (aA (eT (aA bE (aA bE aE bM) bM)) (aA (eT (aA bE (aA bE aE bM) bM)) aE nT) nT)) (aZ _)))))) (aK (bR (kQ zBF fun _=>.bl _))) bF)
 (aF (kL W.own W.calm (iU (aJ 0)) (dO (i:=1) oR.nd rfl (Or.inl rfl)) bN (aF (hU (PWd.pt (zIb (zHh (sX (yW KT.tuple rfl B.isinstance (aJ 1) (rX (v:=.ty "tuple") rfl B.tuple boot_tuple rfl)))) (yJ (tst (neA W.u) zKl (aS aQ cU rfl B.len Qw (aA (aJ 1) aE aB)) bE (aZ _))))) (aK (bR (kQ zBF fun _=>.bl _))) bF)
 (aK (hU (PWd.pt (zIb (zHh (sX (aI W YF rfl (aA (eR 1) aE aN)))) (yJ (zHh (sX (aI W YF rfl (aA (eR 1) aE aN))))))) (aK (bR (kQ zBF fun _=>.bl _))) bF))))
 (aF (kL W.own W.calm (zIM rfl B.range (aA bE (aA (aS aQ cU rfl B.len Qw (aA (aJ 0) aE aB)) aE aM) bM)) (dO (i:=2) oR.nd rfl (Or.inl rfl)) bN (aK (hU (PWd.pt (zIb (zHh (sX (aI W Ug rfl (aA (aT aL bZ (aT aL bZ (aJ 0) (aU jJ pN (aJ 2) bE) (fun _ _=>rfl)) bE (fun _ _=>rfl)) (aA (aT aL bZ (aT aL bZ (aJ 0) (aJ 2) (fun _ _=>rfl)) bE (fun _ _=>rfl)) aE aN) aN)))) (yJ (sX (aI W Ug rfl (aA (aT aL bZ (aT aL bZ (aJ 0) (aJ 2) (fun _ _=>rfl)) bE (fun _ _=>rfl)) (aA (aT aL bZ (aT aL bZ (aJ 0) (aU jJ pN (aJ 2) bE) (fun _ _=>rfl)) bE (fun _ _=>rfl)) aE aN) aN)))))) (aK (bR (kQ zBF fun _=>.bl _))) bF)))
 (aK (bR (oM (eqA W.u) rD (aJ 0) (aI W YW rfl (aA (aJ 0) aE aB)) (aZ _)))))))
theorem zAg(F:Fn K mg "half_dealt" kD ["claims","catch"] f fd)(UE:CanM P w K mg base k "times" ["one","two"] dN)(Y0:CanM P w K mg base k "even_dealt" ["weights","claims","catch"] dJ)(UJ:CanM P w K mg base k "plus" ["one","two"] mF):CanM P w K mg base (k+1) "half_dealt" ["claims","catch"] fN:=
  aO F lS fun cdv A outer s H E G W WR=>(aF (bB (i:=2) lS.nd rfl (Or.inl rfl) (PEf.d (zFg (cI (aA bE aE bM)) (aS aQ cU rfl B.len Qw (aA (aJ 0) aE aB)))))
 (aK (eA (eY W lS.nd rfl (sc:=aH kD) rfl rfl (by decide +kernel) (iU (PEf.d (bI W Y0 rfl (aA (aJ 2) (aA (aJ 0) (aA (aI W UJ rfl (aA (aJ 1) (aA (aJ 1) aE aB) aB)) aE aM) aB) aB)))) (fun C2 s2 H2 fp2 G W=>⟨kB,(aI W UE rfl (aA (aJ 3) (aA (bO rfl C.HALF) aE aB) aB))⟩)))))
theorem zGF(F:Fn K mg "line_of" wP ["points"] f fd)(Y2:CanM P w K mg base k "refuse_bad" ["points"] iG)(YU:CanM P w K mg base k "is_between" ["ahead","point","later"] hJ):CanM P w K mg base (k+1) "line_of" ["points"] eV:=
  aO F sH fun cdv A outer s H E G W WR=>(aF (oO (aI W Y2 rfl (aA (aJ 0) aE aB)))
 (aF (pM (i:=1) sH.nd rfl (Or.inl rfl) (cI aE))
 (aF (kL W.own W.calm (iU (aJ 0)) (dO (i:=2) sH.nd rfl (Or.inl rfl)) bN (aF (hU (PTd.frz (PWd.pt (zGL (tst zHm zPH (aS aQ cU rfl B.len Qw (aA (aJ 1) aE aB)) bE (aZ _)) (yZ (sX (aI W YU rfl (aA (aT aL bZ (aJ 1) (lY bE) (fun _ _=>rfl)) (aA (aT aL bZ (aJ 1) (lY bE) (fun _ _=>rfl)) (aA (aJ 2) aE aB) aN) aN))))))) (aK (zRY (i:=1) (pv 1))) bF)
 (aK (yA (i:=1) (pv 1) (aJ 2)))))
 (aK (bR (nQ iS zFt rfl B.tuple boot_tuple (aA (aJ 1) aE aB)))))))
theorem zLp(F:Fn K mg "value" zEH ["line","x"] f fd)(YJ:CanM P w K mg base k "refuse_outside" ["amount","most"] bH)(UO:CanM P w K mg base k "met" ["line","axis","amount"] uN)(Uu:CanM P w K mg base k "length" ["line"] lD):CanM P w K mg base (k+1) "value" ["line","x"] rT:=
  aO F zKY fun cdv A outer s H E G W WR=>(aF (oO (aI W YJ rfl (aA (aJ 1) (aA (aI W Uu rfl (aA (aJ 0) aE aB)) aE aM) aB)))
 (aK (bR (aI W UO rfl (aA (aJ 0) (aA (bO rfl C.ACROSS) (aA (aJ 1) aE aB) aB) aB)))))
theorem zJM(F:Fn K mg "behind" pY ["one","two"] f fd)(Ux:CanM P w K mg base k "merged" ["one","two"] rC)(Ut:CanM P w K mg base k "line_of" ["points"] eV)(Uu:CanM P w K mg base k "length" ["line"] lD)(UB:CanM P w K mg base k "height" ["line"] qJ)(UO:CanM P w K mg base k "met" ["line","axis","amount"] uN)(Uz:CanM P w K mg base k "places" ["line"] oF)(UG:CanM P w K mg base k "value" ["line","x"] rT):CanM P w K mg base (k+1) "behind" ["one","two"] hG:=
  aO F mV fun cdv A outer s H E G W WR=>(aF (hU (tst (neA W.u) zKl (aI W Uu rfl (aA (aJ 0) aE aB)) (aI W UB rfl (aA (aJ 1) aE aB)) (aZ _)) (aK (iM W WR R.Unlike rfl (aA (kQ cJ fun _=>.str _) aE bM))) bF)
 (aF (zMx (i:=2) mV.nd rfl (Or.inl rfl) (PCf.d (zGf W mV.nd rfl (sc:=aH pY) rfl rfl (by decide +kernel) (iU (PEf.d (bI W Uz rfl (aA (aJ 0) aE aB)))) (fun C2 s2 H2 fp2 G W=>⟨kB,(aI W UO rfl (aA (aJ 1) (aA (bO rfl C.UP) (aA (aJ 4) aE aB) aB) aB))⟩))) rfl)
 (aF (bB (i:=3) mV.nd rfl (Or.inl rfl) (PEf.d (bI W Ux rfl (aA (PEf.d (bI W Uz rfl (aA (aJ 1) aE aB))) (aA (aJ 2) aE aB) aM))))
 (aK (bR (aI W Ut rfl (aA (PEf.d (eY W mV.nd rfl (sc:=aH pY) rfl rfl (by decide +kernel) (iU (aJ 3)) (fun C2 s2 H2 fp2 G W=>⟨kB,(eT (aA (aJ 4) (aA (aI W UG rfl (aA (aJ 0) (aA (aI W UG rfl (aA (aJ 1) (aA (aJ 4) aE aB) aB)) aE aM) aB)) aE aM) aB))⟩))) aE)))))))
theorem zGq(F:Fn K mg "line_at" qH ["joints","dealings","spot"] f fd)(Ut:CanM P w K mg base k "line_of" ["points"] eV):CanM P w K mg base (k+1) "line_at" ["joints","dealings","spot"] mW:=
 aO F zHf fun cdv A outer s H E G W WR=>(aK (bR (aI W Ut rfl (aA (PEf.d (uT (N:=["joints","dealings","spot"]) W (by decide +kernel) rfl (sc:=aH qH) rfl rfl (by decide +kernel) (zGA rfl B.zip (aA (aJ 0) (aA (aJ 1) aE aB) aB)) (fun C2 s2 H2 fp2 G W=>(eT (aA (aJ 3) (aA (aT aL bZ (aJ 4) (aJ 2) (fun _ _=>rfl)) aE aN) aB))))) aE))))
theorem zEM(F:Fn K mg "straight" rP ["claim"] f fd)(Ut:CanM P w K mg base k "line_of" ["points"] eV)(UH:CanM P w K mg base k "whole" ["number"] bL):CanM P w K mg base (k+1) "straight" ["claim"] gP:=
  aO F wO fun cdv A outer s H E G W WR=>(aF (bB (i:=1) wO.nd rfl (Or.inl rfl) (eT (aA (bO rfl C.NOUGHT) (aA (bO rfl C.NOUGHT) aE aB) aB)))
 (aF (hU (tst (eqA W.u) rD (aJ 0) bE (aZ _)) (aK (bR (aI W Ut rfl (aA (PEf.d (cI (aA (aJ 1) aE aB))) aE zFK)))) bF)
 (aK (bR (aI W Ut rfl (aA (PEf.d (cI (aA (aJ 1) (aA (eT (aA (aI W UH rfl (aA (aJ 0) aE aB)) (aA (aI W UH rfl (aA (aJ 0) aE aB)) aE aM) aM)) aE nT) aB))) aE zFK))))))
theorem zCv{r:Mir}(F:Fn K mg "joints_of" jP ["way","weights","claims"] f fd)(UH:CanM P w K mg base k "whole" ["number"] bL)(Ud:CanM P w K mg base k "mirrored" ["joints","most"] gH)(YZ:CanM P w K mg base k "row_joints" ["claims"] fO)(YO:CanM P w K mg base k "even_joints" ["weights","claims"] dL)(UE:CanM P w K mg base k "times" ["one","two"] dN)(YM:CanM P w K mg base k "contrary_way" ["way"] dR)(Y7:CanM P w K mg base k "joints_of" ["way","weights","claims"] r):CanM P w K mg base (k+1) "joints_of" ["way","weights","claims"] (cB r):=
  aO F iI fun cdv A outer s H E G W WR=>(aF (bB (i:=3) iI.nd rfl (Or.inl rfl) (aI W UH rfl (aA (aS (kE W.calm) tI rfl B.sum iC (aA (aJ 2) aE aB)) aE aM)))
 (aF (hU (tst (eqA W.u) rD (aJ 0) (kQ cJ fun _=>.str _) (aZ _)) (aK (eA (bI W YZ rfl (aA (aJ 2) aE aB)))) bF)
 (aF (hU (tst (eqA W.u) rD (aJ 0) (kQ cJ fun _=>.str _) (aZ _)) (aK (eA (bI W YO rfl (aA (aJ 1) (aA (aJ 2) aE aB) aB)))) bF)
 (aF (hU (tst (eqA W.u) rD (aJ 0) (kQ cJ fun _=>.str _) (aZ _)) (aK (eA (cI (aA (bO rfl C.NOUGHT) (aA (aJ 3) aE aB) aB)))) bF)
 (aF (hU (tst (eqA W.u) rD (aJ 0) (kQ cJ fun _=>.str _) (aZ _)) (aF (zMx (i:=4) iI.nd rfl (Or.inl rfl) (PCf.d (zGf W iI.nd rfl (sc:=aH jP) rfl rfl (by decide +kernel) (iU (PEf.d (bI W YO rfl (aA (PEf.d (zFg (cI (aA bE aE bM)) (aS aQ cU rfl B.len Qw (aA (aJ 2) aE aB)))) (aA (aJ 2) aE aB) bJ)))) (fun C2 s2 H2 fp2 G W=>⟨kB,(aI W UE rfl (aA (aJ 5) (aA (bO rfl C.HALF) aE aB) aB))⟩))) rfl)
 (aK (eA (zJb (aJ 4) (PEf.d (bI W Ud rfl (aA (aJ 4) (aA (aJ 3) aE aB) aB))))))) bF)
 (aK (eA (bI W Ud rfl (aA (PEf.d (bI W Y7 rfl (aA (aI W YM rfl (aA (aJ 0) aE aB)) (aA (aJ 1) (aA (aJ 2) aE aB) aB) aM))) (aA (aJ 3) aE aB) aM)))))))))
theorem tG(F:Fn K mg "joints_of" jP ["way","weights","claims"] f fd)(UH:CanM P w K mg base k "whole" ["number"] bL)(Ud:CanM P w K mg base k "mirrored" ["joints","most"] gH)(YZ:CanM P w K mg base k "row_joints" ["claims"] fO)(YO:CanM P w K mg base k "even_joints" ["weights","claims"] dL)(UE:CanM P w K mg base k "times" ["one","two"] dN)(YM:CanM P w K mg base k "contrary_way" ["way"] dR):∀ n:Nat,CanM P w K mg base (k+1+n) "joints_of" ["way","weights","claims"] (bK n)
 | 0=>aO F iI fun cdv A outer s H E G W WR=>zEm
 | n+1=>zCv _ _ _ (k+1+n) B KT C R ET F (UH:=UH.mono (by omega)) (Ud:=Ud.mono (by omega)) (YZ:=YZ.mono (by omega)) (YO:=YO.mono (by omega)) (UE:=UE.mono (by omega)) (YM:=YM.mono (by omega)) (Y7:=tG F (UH:=UH) (Ud:=Ud) (YZ:=YZ) (YO:=YO) (UE:=UE) (YM:=YM) n)
theorem tV{r:Mir}(F:Fn K mg "rightly_dealt" eI ["way","weights","claims","catch"] f fd)(UH:CanM P w K mg base k "whole" ["number"] bL)(Ub:CanM P w K mg base k "row_dealt" ["claims","catch"] gM)(Y0:CanM P w K mg base k "even_dealt" ["weights","claims","catch"] dJ)(YS:CanM P w K mg base k "part_dealt" ["claims","catch"] fK)(YX:CanM P w K mg base k "half_dealt" ["claims","catch"] fN)(UF:CanM P w K mg base k "minus" ["one","two"] cV)(UM:CanM P w K mg base k "less" ["one","two"] fJ)(UJ:CanM P w K mg base k "plus" ["one","two"] mF)(YL:CanM P w K mg base k "rightly_dealt" ["way","weights","claims","catch"] r):CanM P w K mg base (k+1) "rightly_dealt" ["way","weights","claims","catch"] (aV r):=
  aO F eX fun cdv A outer s H E G W WR=>(aF (bB (i:=4) eX.nd rfl (Or.inl rfl) (aI W UH rfl (aA (aS (kE W.calm) tI rfl B.sum iC (aA (aJ 2) aE aB)) aE aM)))
 (aF (hU (tst (eqA W.u) rD (aJ 0) (kQ cJ fun _=>.str _) (aZ _)) (aK (eA (bI W Ub rfl (aA (aJ 2) (aA (aJ 3) aE aB) aB)))) bF)
 (aF (hU (tst (eqA W.u) rD (aJ 0) (kQ cJ fun _=>.str _) (aZ _)) (aK (eA (bI W Y0 rfl (aA (aJ 1) (aA (aJ 2) (aA (aJ 3) aE aB) aB) aB)))) bF)
 (aF (hU (tst (eqA W.u) rD (aJ 0) (kQ cJ fun _=>.str _) (aZ _)) (aK (eA (bI W YS rfl (aA (aJ 2) (aA (aJ 3) aE aB) aB)))) bF)
 (aF (hU (PWd.pt (zGL (tst (eqA W.u) rD (aJ 0) (kQ cJ fun _=>.str _) (aZ _)) (yZ (zHh (sX (aI W UM rfl (aA (aJ 4) (aA (aI W UJ rfl (aA (aJ 3) (aA (aJ 3) aE aB) aB)) aE aM) aB))))))) (aK (eA (bI W YX rfl (aA (aJ 2) (aA (aJ 3) aE aB) aB)))) bF)
 (aF (bB (i:=5) eX.nd rfl (Or.inl rfl) (PEf.d (bI W YL rfl (aA (zMe C.CONTRARY.choose_spec rfl (aJ 0) (fun _ _=>rfl)) (aA (aJ 1) (aA (aJ 2) (aA (aI W UF rfl (aA (aJ 4) (aA (aJ 3) aE aB) aB)) aE aM) aB) aB) aN))))
 (aK (eA (uT (N:=["way","weights","claims","catch","most","lacking"]) W (by decide +kernel) rfl (sc:=aH eI) rfl rfl (by decide +kernel) (zGA rfl B.zip (aA (aJ 2) (aA (aJ 5) aE aB) aB)) (fun C2 s2 H2 fp2 G W=>(aI W UF rfl (aA (aI W UH rfl (aA (aJ 6) aE aB)) (aA (aJ 7) aE aB) aM))))))))))))
theorem lX(F:Fn K mg "rightly_dealt" eI ["way","weights","claims","catch"] f fd)(UH:CanM P w K mg base k "whole" ["number"] bL)(Ub:CanM P w K mg base k "row_dealt" ["claims","catch"] gM)(Y0:CanM P w K mg base k "even_dealt" ["weights","claims","catch"] dJ)(YS:CanM P w K mg base k "part_dealt" ["claims","catch"] fK)(YX:CanM P w K mg base k "half_dealt" ["claims","catch"] fN)(UF:CanM P w K mg base k "minus" ["one","two"] cV)(UM:CanM P w K mg base k "less" ["one","two"] fJ)(UJ:CanM P w K mg base k "plus" ["one","two"] mF):∀ n:Nat,CanM P w K mg base (k+1+n) "rightly_dealt" ["way","weights","claims","catch"] (aR n)
 | 0=>aO F eX fun cdv A outer s H E G W WR=>zEm
 | n+1=>tV _ _ _ (k+1+n) B KT C R ET F (UH:=UH.mono (by omega)) (Ub:=Ub.mono (by omega)) (Y0:=Y0.mono (by omega)) (YS:=YS.mono (by omega)) (YX:=YX.mono (by omega)) (UF:=UF.mono (by omega)) (UM:=UM.mono (by omega)) (UJ:=UJ.mono (by omega)) (YL:=lX F (UH:=UH) (Ub:=Ub) (Y0:=Y0) (YS:=YS) (YX:=YX) (UF:=UF) (UM:=UM) (UJ:=UJ) n)
theorem zKy(F:Fn K mg "dealt" zEw ["way","weights","claims","catch"] f fd)(Uv:CanM P w K mg base k "looked" ["way","weights","claims"] lN)(YJ:CanM P w K mg base k "refuse_outside" ["amount","most"] bH)(YL:CanM P w K mg base k "rightly_dealt" ["way","weights","claims","catch"] (aR 2))(UH:CanM P w K mg base k "whole" ["number"] bL):CanM P w K mg base (k+1) "dealt" ["way","weights","claims","catch"] rN:=
  aO F zKx fun cdv A outer s H E G W WR=>(aF (oO (aI W Uv rfl (aA (aJ 0) (aA (aJ 1) (aA (aJ 2) aE aB) aB) aB)))
 (aF (oO (aI W YJ rfl (aA (aJ 3) (aA (aI W UH rfl (aA (aS (kE W.calm) tI rfl B.sum iC (aA (aJ 2) aE aB)) aE aM)) aE aM) aB)))
 (aK (eA (bI W YL rfl (aA (aJ 0) (aA (aJ 1) (aA (aJ 2) (aA (aJ 3) aE aB) aB) aB) aB))))))
theorem zCe(F:Fn K mg "way_lines" jN ["way","weights","claims"] f fd)(Uv:CanM P w K mg base k "looked" ["way","weights","claims"] lN)(YE:CanM P w K mg base k "without_doubles" ["joints"] dF)(Y7:CanM P w K mg base k "joints_of" ["way","weights","claims"] (bK 2))(YL:CanM P w K mg base k "rightly_dealt" ["way","weights","claims","catch"] (aR 2))(Ur:CanM P w K mg base k "line_at" ["joints","dealings","spot"] mW):CanM P w K mg base (k+1) "way_lines" ["way","weights","claims"] gK:=
  aO F iJ fun cdv A outer s H E G W WR=>(aF (oO (aI W Uv rfl (aA (aJ 0) (aA (aJ 1) (aA (aJ 2) aE aB) aB) aB)))
 (aF (bB (i:=3) iJ.nd rfl (Or.inr rfl) (PEf.d (bI W YE rfl (aA (PEf.d (bI W Y7 rfl (aA (aJ 0) (aA (aJ 1) (aA (aJ 2) aE aB) aB) aB))) aE aM))))
 (aF (bB (i:=4) iJ.nd rfl (Or.inr rfl) (PEf.d (eY W iJ.nd rfl (sc:=aH jN) rfl rfl (by decide +kernel) (iU (aJ 3)) (fun C2 s2 H2 fp2 G W=>⟨kB,(PEf.d (bI W YL rfl (aA (aJ 0) (aA (aJ 1) (aA (aJ 2) (aA (aJ 5) aE aB) aB) aB) aB)))⟩))))
 (aK (eA (eY W iJ.nd rfl (sc:=aH jN) rfl rfl (by decide +kernel) (zCM rfl B.range (aA (aS aQ cU rfl B.len Qw (aA (aJ 2) aE aB)) aE aM)) (fun C2 s2 H2 fp2 G W=>⟨kB,(aI W Ur rfl (aA (aJ 3) (aA (aJ 4) (aA (aJ 5) aE aB) aB) aB))⟩)))))))
theorem zDX{r:Mir}(F:Fn K mg "_law_deep" lB ["custom"] f fd)(Uj:CanM P w K mg base k "_law_deep" ["custom"] r):CanM P w K mg base (k+1) "_law_deep" ["custom"] (oC r):=
  aO F pC fun cdv A outer s H E G W WR=>(aF (hU (tst (eqA W.u) rD (eR 0) (kQ cJ fun _=>.str _) (aZ _)) (aK (bR bE)) bF)
 (aK (bR (aU dZ mI bE (aS (zDc W.calm) zHP rfl B.max boot_max (aA (PEf.d (eY W pC.nd rfl (sc:=aH lB) rfl rfl (by decide +kernel) (iU (eR 0)) (fun C2 s2 H2 fp2 G W=>⟨kB,(aI W Uj rfl (aA (aJ 1) aE aB))⟩))) aE))))))
theorem wB(F:Fn K mg "_law_deep" lB ["custom"] f fd)  : ∀ n:Nat,CanM P w K mg base (k+1+n) "_law_deep" ["custom"] (dU n)
 | 0=>aO F pC fun cdv A outer s H E G W WR=>zEm
 | n+1=>zDX _ _ _ (k+1+n) B KT C R ET F  (Uj:=wB F  n)
theorem zCi{r:Mir}(F:Fn K mg "_law_boats" lE ["custom"] f fd)(Y6:CanM P w K mg base k "_law_boats" ["custom"] r):CanM P w K mg base (k+1) "_law_boats" ["custom"] (lF r):=
  aO F kF fun cdv A outer s H E G W WR=>(aF (hU (tst (eqA W.u) rD (eR 0) (kQ cJ fun _=>.str _) (aZ _)) (aK (eA (cI (aA (eR 0) aE aN)))) bF)
 (aF (pM (i:=1) kF.nd rfl (Or.inl rfl) (cI aE))
 (aF (kL W.own W.calm (iU (eR 0)) (dO (i:=2) kF.nd rfl (Or.inl rfl)) bN (aK (zJK (i:=1) (pv 1) (bI W Y6 rfl (aA (aJ 2) aE aB)))))
 (aK (gZ 1 (pv 1))))))
theorem sV(F:Fn K mg "_law_boats" lE ["custom"] f fd)  : ∀ n:Nat,CanM P w K mg base (k+1+n) "_law_boats" ["custom"] (gJ n)
 | 0=>aO F kF fun cdv A outer s H E G W WR=>zEm
 | n+1=>zCi _ _ _ (k+1+n) B KT C R ET F  (Y6:=sV F  n)
theorem zBM(F:Fn K mg "_law_custom" jX ["cells","plan","most"] f fd)(Um:CanM P w K mg base k "_law_knot" ["kids","mix","plan"] eP)(Uq:CanM P w K mg base k "_law_mix" ["cell","k"] nD)(Uj:CanM P w K mg base k "_law_deep" ["custom"] (dU 10)):CanM P w K mg base (k+1) "_law_custom" ["cells","plan","most"] iB:=
  aO F cH fun cdv A outer s H E G W WR=>(aF (pM (i:=3) cH.nd rfl (Or.inl rfl) (cI aE))
 (aF (bB (i:=4) cH.nd rfl (Or.inl rfl) bE)
 (aF (kL W.own W.calm (zCM rfl B.range (aA (aS aQ cU rfl B.len Qw (aA (aJ 0) aE aB)) aE aM)) (dO (i:=5) cH.nd rfl (Or.inl rfl)) bN (aF (bB (i:=6) cH.nd rfl (Or.inl rfl) (aI W Uq rfl (aA (aT aL bZ (aJ 0) (aJ 5) (fun _ _=>rfl)) (aA (aJ 5) aE aB) aN)))
 (aF (bB (i:=7) cH.nd rfl (Or.inl rfl) (aU dZ mI bE (aU dE kN (aU cS jS (aJ 6) bE) bE)))
 (aK (hU (PTd.frz (PWd.pt (zIb (PWd.pt (zGL (tst pA zEs (aU dE kN (aU cS jS (aJ 6) bE) bE) bE (aZ _)) (yZ (tst pA zEs (aJ 4) (aJ 2) (aZ _))))) (yJ (tst (eqA W.u) rD (aJ 3) (PEf.d (cI aE)) (aZ _)))))) (aF (bB (i:=4) cH.nd rfl (Or.inl rfl) (aU dZ mI (aJ 4) bE))
 (aK (yA (i:=3) (pv 3) (eT (aA (kQ cJ fun _=>.str _) (aA (aT aL bZ (PEf.d (cI (aA (aU dE kN (aU cS jS (aJ 6) bE) bE) (aA (aU dE kN (aU cS jS (aJ 6) bE) bE) (aA (aU dE kN (aU cS jS (aJ 6) bE) (aU zBe zKZ bE bE)) aE bJ) bJ) bJ))) (aU dE kN (aJ 1) bE) (fun _ _=>rfl)) aE aN) bM))))) (aK (hU (PTd.frz (tst pA zEs (aS (zDc W.calm) zHP rfl B.max boot_max (aA (PEf.d (eY W cH.nd rfl (sc:=aH jX) rfl rfl (by decide +kernel) (iU (PEf.d (lG (aJ 3) (nJ (lY (aJ 7))) sK))) (fun C2 s2 H2 fp2 G W=>⟨kB,(aI W Uj rfl (aA (aJ 8) aE aB))⟩))) aE)) bE (aZ _))) (aK (pM (i:=3) cH.nd rfl (Or.inl rfl) (PEf.frz (zJb (PEf.d (lG (aJ 3) sK (nJ (lY (aJ 7))))) (PEf.d (cI (aA (aI W Um rfl (aA (PEf.d (lG (aJ 3) (nJ (lY (aJ 7))) sK)) (aA (aU cS jS (aJ 6) bE) (aA (aJ 1) aE aB) bJ) aN)) aE aM))))))) bF)))))))
 (fB.frzAt 3 (aF (hU (tst (eqA W.u) rD (aJ 3) (PEf.d (cI aE)) (aZ _)) (aK (bR (eT (aA (kQ cJ fun _=>.str _) (aA (aU dE kN (aJ 1) bE) aE bJ) bM)))) bF)
 (aF (hU (tst (eqA W.u) rD (aS aQ cU rfl B.len Qw (aA (aJ 3) aE aB)) bE (aZ _)) (aK (bR (eR 3))) bF)
 (aK (bR (aI W Um rfl (aA (aJ 3) (aA (aU cS jS (aJ 1) bE) (aA (aJ 1) aE aB) bJ) aB))))))))))
theorem zCW{r:Mir}(F:Fn K mg "claims_of" lI ["custom"] f fd)(Up:CanM P w K mg base k "is_boat" ["custom"] cD)(Us:CanM P w K mg base k "kids_of" ["custom"] dC)(Y8:CanM P w K mg base k "claims_of" ["custom"] r):CanM P w K mg base (k+1) "claims_of" ["custom"] (lR r):=
  aO F jU fun cdv A outer s H E G W WR=>(aF (hU (sX (aI W Up rfl (aA (aJ 0) aE aB))) (aK (eA (cI (aA (eR 0) aE aN)))) bF)
 (aF (pM (i:=1) jU.nd rfl (Or.inl rfl) (cI aE))
 (aF (kL W.own W.calm (iU (aI W Us rfl (aA (aJ 0) aE aB))) (dO (i:=2) jU.nd rfl (Or.inl rfl)) bN (aK (zJK (i:=1) (pv 1) (bI W Y8 rfl (aA (aJ 2) aE aB)))))
 (aK (gZ 1 (pv 1))))))
theorem sT(F:Fn K mg "claims_of" lI ["custom"] f fd)(Up:CanM P w K mg base k "is_boat" ["custom"] cD)(Us:CanM P w K mg base k "kids_of" ["custom"] dC):∀ n:Nat,CanM P w K mg base (k+1+n) "claims_of" ["custom"] (gN n)
 | 0=>aO F jU fun cdv A outer s H E G W WR=>zEm
 | n+1=>zCW _ _ _ (k+1+n) B KT C R ET F (Up:=Up.mono (by omega)) (Us:=Us.mono (by omega)) (Y8:=sT F (Up:=Up) (Us:=Us) n)
theorem zEF(F:Fn K mg "claim_of" sP ["custom"] f fd)(Y8:CanM P w K mg base k "claims_of" ["custom"] (gN 10)):CanM P w K mg base (k+1) "claim_of" ["custom"] dS:=
 aO F zDL fun cdv A outer s H E G W WR=>(aK (bR (aS (kE W.calm) tI rfl B.sum iC (aA (PEf.d (bI W Y8 rfl (aA (aJ 0) aE aB))) aE aM))))
theorem zAq(F:Fn K mg "kid_claims" jY ["custom"] f fd)(Uo:CanM P w K mg base k "claim_of" ["custom"] dS)(Us:CanM P w K mg base k "kids_of" ["custom"] dC):CanM P w K mg base (k+1) "kid_claims" ["custom"] cY:=
 aO F qW fun cdv A outer s H E G W WR=>(aK (eA (eY W qW.nd rfl (sc:=aH jY) rfl rfl (by decide +kernel) (iU (aI W Us rfl (aA (aJ 0) aE aB))) (fun C2 s2 H2 fp2 G W=>⟨kB,(aI W Uo rfl (aA (aJ 1) aE aB))⟩))))
theorem zEj{r:Mir}(F:Fn K mg "dealt_on" oA ["custom","catch"] f fd)(Up:CanM P w K mg base k "is_boat" ["custom"] cD)(UI:CanM P w K mg base k "dealt" ["way","weights","claims","catch"] rN)(UD:CanM P w K mg base k "way_of" ["custom"] iX)(Y1:CanM P w K mg base k "weights_of" ["custom"] dA)(YV:CanM P w K mg base k "kid_claims" ["custom"] cY)(Us:CanM P w K mg base k "kids_of" ["custom"] dC)(Ul:CanM P w K mg base k "dealt_on" ["custom","catch"] r):CanM P w K mg base (k+1) "dealt_on" ["custom","catch"] (jB r):=
  aO F gW fun cdv A outer s H E G W WR=>(aF (hU (sX (aI W Up rfl (aA (aJ 0) aE aB))) (aK (eA (cI (aA (aJ 1) aE aB)))) bF)
 (aF (bB (i:=2) gW.nd rfl (Or.inl rfl) (PEf.d (bI W UI rfl (aA (aI W UD rfl (aA (aJ 0) aE aB)) (aA (aI W Y1 rfl (aA (aJ 0) aE aB)) (aA (PEf.d (bI W YV rfl (aA (aJ 0) aE aB))) (aA (aJ 1) aE aB) aM) aM) aM))))
 (aF (pM (i:=3) gW.nd rfl (Or.inl rfl) (cI aE))
 (aF (kL W.own W.calm (zGA rfl B.zip (aA (aI W Us rfl (aA (aJ 0) aE aB)) (aA (aJ 2) aE aB) aM)) (zQk W.calm (zAc (dO (i:=4) gW.nd rfl (Or.inl rfl)) (zAc (dO (i:=5) gW.nd rfl (Or.inl rfl)) zLM)) (zAu (zAu zLV))) (zHS (uA bN (uA bN zJs))) (aK (zJK (i:=3) (pv 3) (bI W Ul rfl (aA (aJ 4) (aA (aJ 5) aE aB) aB)))))
 (aK (gZ 3 (pv 3)))))))
theorem wN(F:Fn K mg "dealt_on" oA ["custom","catch"] f fd)(Up:CanM P w K mg base k "is_boat" ["custom"] cD)(UI:CanM P w K mg base k "dealt" ["way","weights","claims","catch"] rN)(UD:CanM P w K mg base k "way_of" ["custom"] iX)(Y1:CanM P w K mg base k "weights_of" ["custom"] dA)(YV:CanM P w K mg base k "kid_claims" ["custom"] cY)(Us:CanM P w K mg base k "kids_of" ["custom"] dC):∀ n:Nat,CanM P w K mg base (k+1+n) "dealt_on" ["custom","catch"] (fL n)
 | 0=>aO F gW fun cdv A outer s H E G W WR=>zEm
 | n+1=>zEj _ _ _ (k+1+n) B KT C R ET F (Up:=Up.mono (by omega)) (UI:=UI.mono (by omega)) (UD:=UD.mono (by omega)) (Y1:=Y1.mono (by omega)) (YV:=YV.mono (by omega)) (Us:=Us.mono (by omega)) (Ul:=wN F (Up:=Up) (UI:=UI) (UD:=UD) (Y1:=Y1) (YV:=YV) (Us:=Us) n)
theorem zDZ{r:Mir}(F:Fn K mg "lines_of" kZ ["custom"] f fd)(Up:CanM P w K mg base k "is_boat" ["custom"] cD)(Y4:CanM P w K mg base k "way_lines" ["way","weights","claims"] gK)(UD:CanM P w K mg base k "way_of" ["custom"] iX)(Y1:CanM P w K mg base k "weights_of" ["custom"] dA)(YV:CanM P w K mg base k "kid_claims" ["custom"] cY)(Us:CanM P w K mg base k "kids_of" ["custom"] dC)(Uk:CanM P w K mg base k "straight" ["claim"] gP)(Uo:CanM P w K mg base k "claim_of" ["custom"] dS)(UC:CanM P w K mg base k "behind" ["one","two"] hG)(Ui:CanM P w K mg base k "lines_of" ["custom"] r):CanM P w K mg base (k+1) "lines_of" ["custom"] (jC r):=
  aO F fH fun cdv A outer s H E G W WR=>(aF (hU (sX (aI W Up rfl (aA (aJ 0) aE aB))) (aK (eA (cI (aA (aI W Uk rfl (aA (aI W Uo rfl (aA (aJ 0) aE aB)) aE aM)) aE aM)))) bF)
 (aF (bB (i:=1) fH.nd rfl (Or.inl rfl) (PEf.d (bI W Y4 rfl (aA (aI W UD rfl (aA (aJ 0) aE aB)) (aA (aI W Y1 rfl (aA (aJ 0) aE aB)) (aA (PEf.d (bI W YV rfl (aA (aJ 0) aE aB))) aE aM) aM) aM))))
 (aF (pM (i:=2) fH.nd rfl (Or.inl rfl) (cI aE))
 (aF (kL W.own W.calm (zGA rfl B.zip (aA (aI W Us rfl (aA (aJ 0) aE aB)) (aA (aJ 1) aE aB) aM)) (zQk W.calm (zAc (dO (i:=3) fH.nd rfl (Or.inl rfl)) (zAc (dO (i:=4) fH.nd rfl (Or.inr rfl)) zLM)) (zAu (zAu zLV))) (zHS (uA bN (uA bN zJs))) (aK (zJK (i:=2) (pv 2) (eY W fH.nd rfl (sc:=aH kZ) rfl rfl (by decide +kernel) (iU (PEf.d (bI W Ui rfl (aA (aJ 3) aE aB)))) (fun C2 s2 H2 fp2 G W=>⟨kB,(aI W UC rfl (aA (aJ 5) (aA (aJ 4) aE aB) aB))⟩)))))
 (aK (gZ 2 (pv 2)))))))
theorem vV(F:Fn K mg "lines_of" kZ ["custom"] f fd)(Up:CanM P w K mg base k "is_boat" ["custom"] cD)(Y4:CanM P w K mg base k "way_lines" ["way","weights","claims"] gK)(UD:CanM P w K mg base k "way_of" ["custom"] iX)(Y1:CanM P w K mg base k "weights_of" ["custom"] dA)(YV:CanM P w K mg base k "kid_claims" ["custom"] cY)(Us:CanM P w K mg base k "kids_of" ["custom"] dC)(Uk:CanM P w K mg base k "straight" ["claim"] gP)(Uo:CanM P w K mg base k "claim_of" ["custom"] dS)(UC:CanM P w K mg base k "behind" ["one","two"] hG):∀ n:Nat,CanM P w K mg base (k+1+n) "lines_of" ["custom"] (eO n)
 | 0=>aO F fH fun cdv A outer s H E G W WR=>zEm
 | n+1=>zDZ _ _ _ (k+1+n) B KT C R ET F (Up:=Up.mono (by omega)) (Y4:=Y4.mono (by omega)) (UD:=UD.mono (by omega)) (Y1:=Y1.mono (by omega)) (YV:=YV.mono (by omega)) (Us:=Us.mono (by omega)) (Uk:=Uk.mono (by omega)) (Uo:=Uo.mono (by omega)) (UC:=UC.mono (by omega)) (Ui:=vV F (Up:=Up) (Y4:=Y4) (UD:=UD) (Y1:=Y1) (YV:=YV) (Us:=Us) (Uk:=Uk) (Uo:=Uo) (UC:=UC) n)
theorem zHI(F:Fn K mg "shares" zAA ["custom","catch"] f fd)(YJ:CanM P w K mg base k "refuse_outside" ["amount","most"] bH)(Ul:CanM P w K mg base k "dealt_on" ["custom","catch"] (fL 10))(UH:CanM P w K mg base k "whole" ["number"] bL)(Uo:CanM P w K mg base k "claim_of" ["custom"] dS):CanM P w K mg base (k+1) "shares" ["custom","catch"] pS:=
  aO F zIo fun cdv A outer s H E G W WR=>(aF (oO (aI W YJ rfl (aA (aJ 1) (aA (aI W UH rfl (aA (aI W Uo rfl (aA (aJ 0) aE aB)) aE aM)) aE aM) aB)))
 (aK (eA (bI W Ul rfl (aA (aJ 0) (aA (aJ 1) aE aB) aB)))))
theorem zPZ(F:Fn K mg "law" uU ["script"] f fd)(YQ:CanM P w K mg base k "_law_cell_at" ["script","k"] fZ)(YT:CanM P w K mg base k "_law_custom" ["cells","plan","most"] iB)(Y6:CanM P w K mg base k "_law_boats" ["custom"] (gJ 10))(Ui:CanM P w K mg base k "lines_of" ["custom"] (eO 10))(Y3:CanM P w K mg base k "_law_place" ["cell","line"] jI)(Uw:CanM P w K mg base k "shares" ["custom","catch"] pS)(Uh:CanM P w K mg base k "_law_fine" ["found"] iZ)(Y9:CanM P w K mg base k "_law_value" ["line","x"] fI):FnOk P w K mg base (CX1 P w) (k+1) f fd ["script"] (spM K mg 1 zMF):=
  zOS F lZ fun cdv A outer s H E G W WR=>(aF (bB (i:=1) lZ.nd rfl (Or.inl rfl) (aI W YQ rfl (aA (aJ 0) (aA bE aE bM) aB)))
 (aF (bB (i:=2) lZ.nd rfl (Or.inl rfl) (nQ zHH zPU rfl B.int boot_int (aA (oM (eqA W.u) rD (aU dE kN (aU cS jS (aJ 1) bE) bE) bE (aZ _)) aE)))
 (aF (bB (i:=3) lZ.nd rfl (Or.inl rfl) (aI W YT rfl (aA (PEf.d (lG (aJ 0) (nJ bE) (nJ (aT aL bZ (PEf.d (cI (aA bE (aA bE aE bM) bM))) (aJ 2) (fun _ _=>rfl))))) (aA (aJ 1) (aA (aT aL bZ (PEf.d (cI (aA bE (aA bE aE bM) bM))) (aJ 2) (fun _ _=>rfl)) aE aN) aB) aN)))
 (aF (bB (i:=4) lZ.nd rfl (Or.inl rfl) (PEf.d (bI W Y6 rfl (aA (aJ 3) aE aB))))
 (aF (pM (i:=5) lZ.nd rfl (Or.inl rfl) (bI W Ui rfl (aA (aJ 3) aE aB)))
 (aF (hU (PTd.frz (PWd.pt (zIb (zHh (sX (yW KT.list rfl B.isinstance (aJ 5) (rX (v:=.ty "list") rfl B.list boot_list rfl)))) (yJ (tst (neA W.u) zKl (aS aQ cU rfl B.len Qw (aA (aJ 5) aE aB)) (aS aQ cU rfl B.len Qw (aA (aJ 4) aE aB)) (aZ _)))))) (aK (bR (kQ zBF fun _=>.bl _))) bF)
 (aF (zQL (j:=6) (k:=7) W.own W.calm lZ.nd rfl (Or.inl rfl) rfl (Or.inl rfl) (zGA rfl B.zip (aA (aJ 5) (aA (aJ 4) aE aB) aB)) (PWd.pt (zIb (zHh (sX (aI W Uh rfl (aA (aJ 6) aE aB)))) (yJ (tst (neA W.u) zKl (aT aL bZ (aJ 6) (lY bE) (fun _ _=>rfl)) (eT (aA (eT (aA (aS (kE W.calm) tI rfl B.sum iC (aA (aJ 4) aE aB)) (aA bE aE bM) aM)) (aA (eT (aA (aJ 7) (aA bE aE bM) aB)) aE nT) nT)) (aZ _))))))
 (aF (kL W.own W.calm (iU (PEf.d (zJb (PEf.d (cI (aA bE aE bM))) (PEf.d (lG (aJ 0) sK (nJ (aT aL bZ (PEf.d (cI (aA bE (aA bE aE bM) bM))) (aJ 2) (fun _ _=>rfl)))))))) (dO (i:=8) lZ.nd rfl (Or.inl rfl)) bN (aF (bB (i:=9) lZ.nd rfl (Or.inl rfl) (PEd.frz (aI W Y3 rfl (aA (aJ 8) (aA (aT aL bZ (aJ 5) (aU dE kN (aU cS jS (aJ 8) bE) (aS aQ cU rfl B.len Qw (aA (aJ 5) aE aB))) (fun _ _=>rfl)) aE aN) aB))))
 (aF (bB (i:=10) lZ.nd rfl (Or.inl rfl) (PEf.d (bI W Uw rfl (aA (aJ 3) (aA (aJ 9) aE aB) aB))))
 (aK (kL W.own W.calm (zCM rfl B.range (aA (aS aQ cU rfl B.len Qw (aA (aJ 4) aE aB)) aE aM)) (dO (i:=11) lZ.nd rfl (Or.inl rfl)) bN (aK (hU (PTd.frz (tst (neA W.u) zKl (aI W Y9 rfl (aA (aT aL bZ (aJ 5) (aJ 11) (fun _ _=>rfl)) (aA (aJ 9) aE aB) aN)) (aT aL bZ (aJ 10) (aJ 11) (fun _ _=>rfl)) (aZ _))) (aK (bR (kQ zBF fun _=>.bl _))) bF)))))))
 (aF (bB (i:=12) lZ.nd rfl (Or.inl rfl) (PEf.d (PEf.frz (zMO rfl B.list boot_list (aA (aJ 5) aE aB)))))
 (aF (yA (i:=5) (pv 5) bE)
 (aK (bR (oM (eqA W.u) rD (PEf.d (bI W Ui rfl (aA (aJ 3) aE aB))) (aJ 12) (aZ _))))))))))))))
end
end
def FnK(K:PySem.W.Frag)(x:Str)(st:Stmt):Prop:=∃ f oc od sl kV dc pm an cd ct,PySem.W.nsIn K mainGlobals x=some (some (.ref f))/\K.lookup f=some ⟨oc,od,.func (PySem.W.fnOf x x (kK st) (fW st) (aH st) .none kV dc pm an cd ct),sl⟩/\PySem.W.codeIn K cd x=true/\PySem.W.keepIn K (.ref f)=true
theorem fk{K:Fg_}{h:Heap}{mg:Str->Option Value}{x:Str}{st:Stmt}(X:K.In h)(G:h.Ns mainGlobals mg)(d:FnK K x st)(ps:List Str)(hb:∀ (kV doc pm:Value) (an:Option Addr) (cdv ct:Value) (us:List Value),us.length=ps.length->bindArgs (PySem.W.fnOf x x (kK st) (fW st) (aH st) .none kV doc pm an cdv ct) ⟨us,[]⟩=pure (ps.zip us)):∃ f fd,Fn K mg x st ps f fd:=by
 obtain⟨f,oc,od,sl,kV,dc,pm,an,cd,ct,a,l,c,k⟩:=d;exact⟨f,_,yR (st:=st) l c k,(yR (st:=st) l c k).binds (ps:=ps) hb,k,Q9 X G a⟩
theorem fkm{K:Fg_}{x:Str}{st:Stmt}{f:Addr}{oc:Value}{od an:Option Addr}{sl:Array (Option Value)}{kV dc pm cd ct:Value}(a:PySem.W.nsIn K mainGlobals x=some (some (.ref f)))(l:K.lookup f=some ⟨oc,od,.func (PySem.W.fnOf x x (kK st) (fW st) (aH st) .none kV dc pm an cd ct),sl⟩)(c:PySem.W.codeIn K cd x=true)(k:PySem.W.keepIn K (.ref f)=true):FnK K x st:=⟨f,oc,od,sl,kV,dc,pm,an,cd,ct,a,l,c,k⟩
theorem zPQ{l:PySem.W.OpenLaw}{w:World}{K:Fg_}{h:Heap}{mg:Str->Option Value}{fa f11 f69:Addr}(X:K.In h)(G:h.Ns mainGlobals mg)(hfa:mg "law" = some (.ref fa))
  {od11 an11:Option Addr} {sl11:Array (Option Value)} {oc11 kV11 dc11 pm11 ct11:Value}
  {od69 an69:Option Addr} {sl69:Array (Option Value)} {oc69 kV69 dc69 pm69 cd69 ct69:Value}
  (d0:FnK K "common_divisor" iN)
  (d1:FnK K "made" zIV)
  (d2:FnK K "whole" zDP)
  (d3:FnK K "plus" zJL)
  (d4:FnK K "minus" zEE)
  (d5:FnK K "times" zEL)
  (d6:FnK K "over" zHt)
  (d7:FnK K "less" zIQ)
  (d8:FnK K "lesser" zAL)
  (d9:FnK K "is_outside" mU)
  (d10:FnK K "refuse_outside" iP)
  {cR T:Addr}
  (a11:PySem.W.nsIn K mainGlobals "ranked" = some (some (.ref f11))) (l11:K.lookup f11=some ⟨oc11,od11,.func (PySem.W.fnOf "ranked" "ranked" (kK iW) (fW iW) (aH iW) .none kV11 dc11 pm11 an11 (.ref cR) ct11),sl11⟩) (c11:PySem.W.codeIn K (.ref cR) "ranked" = true) (k11:PySem.W.keepIn K (.ref f11)=true)
  (tq:PySem.W.codeHdIn K cR T=true) (tn:K.lookup T=none)
  (d12:FnK K "looked" zBH)
  (d13:FnK K "refuse_way" mX)
  (d14:FnK K "refuse_claims" jD)
  (d15:FnK K "refuse_weights" iQ)
  (d16:FnK K "contrary_way" kP)
  (d17:FnK K "dealt" zEw)
  (d18:FnK K "rightly_dealt" eI)
  (d19:FnK K "row_dealt" pK)
  (d20:FnK K "even_dealt" nE)
  (d21:FnK K "levels_of" lO)
  (d22:FnK K "part_dealt" kC)
  (d23:FnK K "half_dealt" kD)
  (d24:FnK K "is_boat" vQ)
  (d25:FnK K "way_of" zBp)
  (d26:FnK K "weights_of" nO)
  (d27:FnK K "kids_of" uJ)
  (d28:FnK K "claims_of" lI)
  (d29:FnK K "claim_of" sP)
  (d30:FnK K "kid_claims" jY)
  (d31:FnK K "shares" zAA)
  (d32:FnK K "dealt_on" oA)
  (d33:FnK K "line_of" wP)
  (d34:FnK K "refuse_bad" nF)
  (d35:FnK K "is_between" nG)
  (d36:FnK K "length" zAe)
  (d37:FnK K "height" zAn)
  (d38:FnK K "value" zEH)
  (d39:FnK K "first_reaching" iO)
  (d40:FnK K "met" zNh)
  (d41:FnK K "behind" pY)
  (d42:FnK K "places" uF)
  (d43:FnK K "merged" zZ)
  (d44:FnK K "way_lines" jN)
  (d45:FnK K "line_at" qH)
  (d46:FnK K "joints_of" jP)
  (d47:FnK K "row_joints" mT)
  (d48:FnK K "even_joints" lQ)
  (d49:FnK K "mirrored" nV)
  (d50:FnK K "without_doubles" gO)
  (d51:FnK K "lines_of" kZ)
  (d52:FnK K "straight" rP)
  (d53:FnK K "_law_cell_at" lH)
  (d54:FnK K "_law_made" rK)
  (d55:FnK K "_law_plus" sE)
  (d56:FnK K "_law_minus" oZ)
  (d57:FnK K "_law_times" oW)
  (d58:FnK K "_law_less" rV)
  (d59:FnK K "_law_is_fraction" gX)
  (d60:FnK K "_law_fewest" nL)
  (d61:FnK K "_law_value" pJ)
  (d62:FnK K "_law_fine" sJ)
  (d63:FnK K "_law_place" oT)
  (d64:FnK K "_law_mix" vM)
  (d65:FnK K "_law_knot" nU)
  (d66:FnK K "_law_deep" lB)
  (d67:FnK K "_law_custom" jX)
  (d68:FnK K "_law_boats" lE)
  (a69:PySem.W.nsIn K mainGlobals "law" = some (some (.ref f69))) (l69:K.lookup f69=some ⟨oc69,od69,.func (PySem.W.fnOf "law" "law" (kK uU) (fW uU) (aH uU) .none kV69 dc69 pm69 an69 cd69 ct69),sl69⟩) (c69:PySem.W.codeIn K cd69 "law" = true) (k69:PySem.W.keepIn K (.ref f69)=true)
  (z_abs:PySem.W.nsIn K mainGlobals "abs" = some none)
  (z_sorted:PySem.W.nsIn K mainGlobals "sorted" = some none)
  (z_range:PySem.W.nsIn K mainGlobals "range" = some none)
  (z_len:PySem.W.nsIn K mainGlobals "len" = some none)
  (z_sum:PySem.W.nsIn K mainGlobals "sum" = some none)
  (z_zip:PySem.W.nsIn K mainGlobals "zip" = some none)
  (z_tuple:PySem.W.nsIn K mainGlobals "tuple" = some none)
  (z_reversed:PySem.W.nsIn K mainGlobals "reversed" = some none)
  (z_isinstance:PySem.W.nsIn K mainGlobals "isinstance" = some none)
  (z_bool:PySem.W.nsIn K mainGlobals "bool" = some none)
  (z_int:PySem.W.nsIn K mainGlobals "int" = some none)
  (z_max:PySem.W.nsIn K mainGlobals "max" = some none)
  (z_list:PySem.W.nsIn K mainGlobals "list" = some none)
  (KT:Kt K) (CC:∀(h:Heap)(mg:Str->Option Value),K.In h->h.Ns mainGlobals mg->Ct K mg) (RR:∀(h:Heap)(mg:Str->Option Value),K.In h->h.Ns mainGlobals mg->Rt K mg) (EE:∀(h:Heap)(mg:Str->Option Value),K.In h->h.Ns mainGlobals mg->Et K mg)
  : K.lookup T=none/\rA K mg T/\∃ fd:FuncData,(∀(s:Shared)(v:Value),BindsTo s fd ⟨[v],[]⟩ [("script", v)])/\∀ base:Heap,K.In base->base.Ns mainGlobals mg->BMn base mg->FnOk l.prog w K mg base (CX1 l.prog w) 28 fa fd ["script"] (zRb K mg):=by
 have e:=hfa.symm.trans (Q9 X G a69);cases e;have B:Bt mg:=⟨QV X G z_abs,QV X G z_sorted,QV X G z_range,QV X G z_len,QV X G z_sum,QV X G z_zip,QV X G z_tuple,QV X G z_reversed,QV X G z_isinstance,QV X G z_bool,QV X G z_int,QV X G z_max,QV X G z_list⟩;have C:Ct K mg:=CC h mg X G;have R:Rt K mg:=RR h mg X G;have ET:Et K mg:=EE h mg X G;have hT:rA K mg T:=⟨f11,_,_,_,_,cR,Q9 X G a11,l11,rfl,fun h X=>PySem.W.codeHd_of_K X tq⟩
 refine⟨tn,hT,?_⟩
 refine⟨PySem.W.fnOf "law" "law" (kK uU) (fW uU) (aH uU) .none kV69 dc69 pm69 an69 cd69 ct69,fun s v=>.of_eq rfl,fun base _ _ hB=>?_⟩
 obtain⟨_,_,F0⟩:=fk X G d0 ["one","two"] (by walk_at "b")
 have YG:=sN l.prog w base 0 B KT C R ET F0;obtain⟨_,_,F2⟩:=fk X G d2 ["number"] (by walk_at "b")
 have UH:=zKn l.prog w base 0 B KT C R ET F2;obtain⟨_,_,F7⟩:=fk X G d7 ["one","two"] (by walk_at "b")
 have UM:=zME l.prog w base 0 B KT C R ET F7;have F11:Fn K mg "ranked" iW ["some"] _ _:=⟨yR (st:=iW) l11 c11 k11,(yR (st:=iW) l11 c11 k11).binds (ps:=["some"]) (by walk_at "b"),k11,Q9 X G a11⟩
 have Uy:=zHs l.prog w base 0 B KT C R ET F11 hT hB;obtain⟨_,_,F13⟩:=fk X G d13 ["way"] (by walk_at "b")
 have YY:=zBt l.prog w base 0 B KT C R ET F13;obtain⟨_,_,F14⟩:=fk X G d14 ["claims"] (by walk_at "b")
 have YK:=tR l.prog w base 0 B KT C R ET F14;obtain⟨_,_,F15⟩:=fk X G d15 ["way","weights","many"] (by walk_at "b")
 have YI:=sM l.prog w base 0 B KT C R ET F15;obtain⟨_,_,F24⟩:=fk X G d24 ["custom"] (by walk_at "b")
 have Up:=zGQ l.prog w base 0 B KT C R ET F24;obtain⟨_,_,F25⟩:=fk X G d25 ["custom"] (by walk_at "b")
 have UD:=zJc l.prog w base 0 B KT C R ET F25;obtain⟨_,_,F26⟩:=fk X G d26 ["custom"] (by walk_at "b")
 have Y1:=zAw l.prog w base 0 B KT C R ET F26;obtain⟨_,_,F36⟩:=fk X G d36 ["line"] (by walk_at "b")
 have Uu:=zHM l.prog w base 0 B KT C R ET F36;obtain⟨_,_,F37⟩:=fk X G d37 ["line"] (by walk_at "b")
 have UB:=zJT l.prog w base 0 B KT C R ET F37;obtain⟨_,_,F42⟩:=fk X G d42 ["line"] (by walk_at "b")
 have Uz:=zHE l.prog w base 0 B KT C R ET F42;obtain⟨_,_,F53⟩:=fk X G d53 ["script","k"] (by walk_at "b")
 have YQ:=xL l.prog w base 0 B KT C R ET F53;obtain⟨_,_,F54⟩:=fk X G d54 ["top","bottom"] (by walk_at "b")
 have Uf:=zEc l.prog w base 0 B KT C R ET F54;obtain⟨_,_,F58⟩:=fk X G d58 ["one","two"] (by walk_at "b")
 have Ug:=zEd l.prog w base 0 B KT C R ET F58;obtain⟨_,_,F64⟩:=fk X G d64 ["cell","k"] (by walk_at "b")
 have Uq:=zGl l.prog w base 0 B KT C R ET F64;obtain⟨_,_,F65⟩:=fk X G d65 ["kids","mix","plan"] (by walk_at "b")
 have Um:=zDF l.prog w base 0 B KT C R ET F65;obtain⟨_,_,F1⟩:=fk X G d1 ["top","bottom"] (by walk_at "b")
 have UK:=zOL l.prog w base 1 B KT C R ET F1 (YG:=YG.mo);obtain⟨_,_,F8⟩:=fk X G d8 ["one","two"] (by walk_at "b")
 have UA:=zHz l.prog w base 1 B KT C R ET F8 (UM:=UM.mo);obtain⟨_,_,F9⟩:=fk X G d9 ["amount","most"] (by walk_at "b")
 have YR:=zAp l.prog w base 1 B KT C R ET F9 (UM:=UM.mo);obtain⟨_,_,F12⟩:=fk X G d12 ["way","weights","claims"] (by walk_at "b")
 have Uv:=zIZ l.prog w base 1 B KT C R ET F12 (YY:=YY.mo) (YK:=YK.mo) (YI:=YI.mo);obtain⟨_,_,F16⟩:=fk X G d16 ["way"] (by walk_at "b")
 have YM:=vA l.prog w base 1 B KT C R ET F16 (YY:=YY.mo);obtain⟨_,_,F27⟩:=fk X G d27 ["custom"] (by walk_at "b")
 have Us:=zGC l.prog w base 1 B KT C R ET F27 (Up:=Up.mo);obtain⟨_,_,F34⟩:=fk X G d34 ["points"] (by walk_at "b")
 have Y2:=zAl l.prog w base 1 B KT C R ET F34 (UM:=UM.mo);obtain⟨_,_,F39⟩:=fk X G d39 ["line","axis","amount"] (by walk_at "b")
 have YH:=rY l.prog w base 1 B KT C R ET F39 (UM:=UM.mo);obtain⟨_,_,F43⟩:=fk X G d43 ["one","two"] (by walk_at "b")
 have Ux:=zJr l.prog w base 1 B KT C R ET F43 (UM:=UM.mo);obtain⟨_,_,F47⟩:=fk X G d47 ["claims"] (by walk_at "b")
 have YZ:=zU l.prog w base 1 B KT C R ET F47 (UH:=UH.mo);obtain⟨_,_,F50⟩:=fk X G d50 ["joints"] (by walk_at "b")
 have YE:=qE l.prog w base 1 B KT C R ET F50 (UM:=UM.mo);obtain⟨_,_,F55⟩:=fk X G d55 ["one","two"] (by walk_at "b")
 have Ue:=zEp l.prog w base 1 B KT C R ET F55 (Uf:=Uf.mo);obtain⟨_,_,F56⟩:=fk X G d56 ["one","two"] (by walk_at "b")
 have Ua:=zCz l.prog w base 1 B KT C R ET F56 (Uf:=Uf.mo);obtain⟨_,_,F57⟩:=fk X G d57 ["one","two"] (by walk_at "b")
 have Uc:=zCH l.prog w base 1 B KT C R ET F57 (Uf:=Uf.mo);obtain⟨_,_,F59⟩:=fk X G d59 ["found"] (by walk_at "b")
 have YF:=qG l.prog w base 1 B KT C R ET F59 (Uf:=Uf.mo);obtain⟨_,_,F3⟩:=fk X G d3 ["one","two"] (by walk_at "b")
 have UJ:=zMT l.prog w base 2 B KT C R ET F3 (UK:=UK.mo);obtain⟨_,_,F4⟩:=fk X G d4 ["one","two"] (by walk_at "b")
 have UF:=zKp l.prog w base 2 B KT C R ET F4 (UK:=UK.mo);obtain⟨_,_,F5⟩:=fk X G d5 ["one","two"] (by walk_at "b")
 have UE:=zKt l.prog w base 2 B KT C R ET F5 (UK:=UK.mo);obtain⟨_,_,F6⟩:=fk X G d6 ["one","two"] (by walk_at "b")
 have UL:=zMU l.prog w base 2 B KT C R ET F6 (UK:=UK.mo);obtain⟨_,_,F10⟩:=fk X G d10 ["amount","most"] (by walk_at "b")
 have YJ:=rQ l.prog w base 2 B KT C R ET F10 (YR:=YR.mo);obtain⟨_,_,F21⟩:=fk X G d21 ["weights","claims"] (by walk_at "b")
 have Y5:=zDt l.prog w base 2 B KT C R ET F21 (UK:=UK.mo);obtain⟨_,_,F60⟩:=fk X G d60 ["points"] (by walk_at "b")
 have YW:=zAI l.prog w base 2 B KT C R ET F60 (Ua:=Ua.mo) (Uc:=Uc.mo);obtain⟨_,_,F61⟩:=fk X G d61 ["line","x"] (by walk_at "b")
 have Y9:=zCL l.prog w base 2 B KT C R ET F61 (Ug:=Ug.mo) (Ua:=Ua.mo) (Uc:=Uc.mo) (Ue:=Ue.mo);obtain⟨_,_,F63⟩:=fk X G d63 ["cell","line"] (by walk_at "b")
 have Y3:=zCu l.prog w base 2 B KT C R ET F63 (Uc:=Uc.mo) (Uf:=Uf.mo);obtain⟨_,_,F19⟩:=fk X G d19 ["claims","catch"] (by walk_at "b")
 have Ub:=zDf l.prog w base 3 B KT C R ET F19 (UA:=UA.mo) (UF:=UF.mo) (UH:=UH.mo);obtain⟨_,_,F20⟩:=fk X G d20 ["weights","claims","catch"] (by walk_at "b")
 have Y0:=zBr l.prog w base 3 B KT C R ET F20 (Uy:=Uy.mono (by decide)) (Y5:=Y5.mo) (UL:=UL.mo) (UA:=UA.mo) (UF:=UF.mo) (UE:=UE.mo) (UH:=UH.mo)
 obtain⟨_,_,F22⟩:=fk X G d22 ["claims","catch"] (by walk_at "b")
 have YS:=zBm l.prog w base 3 B KT C R ET F22 (UL:=UL.mo) (UH:=UH.mo) (UE:=UE.mo);obtain⟨_,_,F35⟩:=fk X G d35 ["ahead","point","later"] (by walk_at "b")
 have YU:=zN l.prog w base 3 B KT C R ET F35 (UF:=UF.mo) (UE:=UE.mo);obtain⟨_,_,F40⟩:=fk X G d40 ["line","axis","amount"] (by walk_at "b")
 have UO:=zQZ l.prog w base 3 B KT C R ET F40 (YH:=YH.mo) (UL:=UL.mo) (UJ:=UJ.mo) (UF:=UF.mo) (UE:=UE.mo);obtain⟨_,_,F48⟩:=fk X G d48 ["weights","claims"] (by walk_at "b")
 have YO:=xB l.prog w base 3 B KT C R ET F48 (Y5:=Y5.mo) (Uy:=Uy.mono (by decide)) (UJ:=UJ.mo) (UH:=UH.mo) (UE:=UE.mo)
 obtain⟨_,_,F49⟩:=fk X G d49 ["joints","most"] (by walk_at "b")
 have Ud:=zEP l.prog w base 3 B KT C R ET F49 (UF:=UF.mo);obtain⟨_,_,F62⟩:=fk X G d62 ["found"] (by walk_at "b")
 have Uh:=zDR l.prog w base 3 B KT C R ET F62 (YW:=YW.mo) (Ug:=Ug.mo) (YF:=YF.mo);obtain⟨_,_,F23⟩:=fk X G d23 ["claims","catch"] (by walk_at "b")
 have YX:=zAg l.prog w base 4 B KT C R ET F23 (UE:=UE.mo) (Y0:=Y0.mo) (UJ:=UJ.mo);obtain⟨_,_,F33⟩:=fk X G d33 ["points"] (by walk_at "b")
 have Ut:=zGF l.prog w base 4 B KT C R ET F33 (Y2:=Y2.mo) (YU:=YU.mo);obtain⟨_,_,F38⟩:=fk X G d38 ["line","x"] (by walk_at "b")
 have UG:=zLp l.prog w base 4 B KT C R ET F38 (YJ:=YJ.mo) (UO:=UO.mo) (Uu:=Uu.mo);obtain⟨_,_,F41⟩:=fk X G d41 ["one","two"] (by walk_at "b")
 have UC:=zJM l.prog w base 5 B KT C R ET F41 (Ux:=Ux.mo) (Ut:=Ut.mo) (Uu:=Uu.mo) (UB:=UB.mo) (UO:=UO.mo) (Uz:=Uz.mo) (UG:=UG.mo);obtain⟨_,_,F45⟩:=fk X G d45 ["joints","dealings","spot"] (by walk_at "b")
 have Ur:=zGq l.prog w base 5 B KT C R ET F45 (Ut:=Ut.mo);obtain⟨_,_,F52⟩:=fk X G d52 ["claim"] (by walk_at "b")
 have Uk:=zEM l.prog w base 5 B KT C R ET F52 (Ut:=Ut.mo) (UH:=UH.mo);obtain⟨_,_,F46⟩:=fk X G d46 ["way","weights","claims"] (by walk_at "b")
 have Y7:=tG l.prog w base 4 B KT C R ET F46 (UH:=UH.mo) (Ud:=Ud.mo) (YZ:=YZ.mo) (YO:=YO.mo) (UE:=UE.mo) (YM:=YM.mo) 2;obtain⟨_,_,F18⟩:=fk X G d18 ["way","weights","claims","catch"] (by walk_at "b")
 have YL:=lX l.prog w base 5 B KT C R ET F18 (UH:=UH.mo) (Ub:=Ub.mo) (Y0:=Y0.mo) (YS:=YS.mo) (YX:=YX.mo) (UF:=UF.mo) (UM:=UM.mo) (UJ:=UJ.mo) 2;obtain⟨_,_,F17⟩:=fk X G d17 ["way","weights","claims","catch"] (by walk_at "b")
 have UI:=zKy l.prog w base 8 B KT C R ET F17 (Uv:=Uv.mo) (YJ:=YJ.mo) (YL:=YL.mo) (UH:=UH.mo);obtain⟨_,_,F44⟩:=fk X G d44 ["way","weights","claims"] (by walk_at "b")
 have Y4:=zCe l.prog w base 8 B KT C R ET F44 (Uv:=Uv.mo) (YE:=YE.mo) (Y7:=Y7.mo) (YL:=YL.mo) (Ur:=Ur.mo);obtain⟨_,_,F66⟩:=fk X G d66 ["custom"] (by walk_at "b")
 have Uj:=wB l.prog w base 0 B KT C R ET F66  10;obtain⟨_,_,F68⟩:=fk X G d68 ["custom"] (by walk_at "b")
 have Y6:=sV l.prog w base 0 B KT C R ET F68  10;obtain⟨_,_,F67⟩:=fk X G d67 ["cells","plan","most"] (by walk_at "b")
 have YT:=zBM l.prog w base 11 B KT C R ET F67 (Um:=Um.mo) (Uq:=Uq.mo) (Uj:=Uj.mo);obtain⟨_,_,F28⟩:=fk X G d28 ["custom"] (by walk_at "b")
 have Y8:=sT l.prog w base 2 B KT C R ET F28 (Up:=Up.mo) (Us:=Us.mo) 10;obtain⟨_,_,F29⟩:=fk X G d29 ["custom"] (by walk_at "b")
 have Uo:=zEF l.prog w base 13 B KT C R ET F29 (Y8:=Y8.mo);obtain⟨_,_,F30⟩:=fk X G d30 ["custom"] (by walk_at "b")
 have YV:=zAq l.prog w base 14 B KT C R ET F30 (Uo:=Uo.mo) (Us:=Us.mo);obtain⟨_,_,F32⟩:=fk X G d32 ["custom","catch"] (by walk_at "b")
 have Ul:=wN l.prog w base 15 B KT C R ET F32 (Up:=Up.mo) (UI:=UI.mo) (UD:=UD.mo) (Y1:=Y1.mo) (YV:=YV.mo) (Us:=Us.mo) 10;obtain⟨_,_,F51⟩:=fk X G d51 ["custom"] (by walk_at "b")
 have Ui:=vV l.prog w base 15 B KT C R ET F51 (Up:=Up.mo) (Y4:=Y4.mo) (UD:=UD.mo) (Y1:=Y1.mo) (YV:=YV.mo) (Us:=Us.mo) (Uk:=Uk.mo) (Uo:=Uo.mo) (UC:=UC.mo) 10;obtain⟨_,_,F31⟩:=fk X G d31 ["custom","catch"] (by walk_at "b")
 have Uw:=zHI l.prog w base 26 B KT C R ET F31 (YJ:=YJ.mo) (Ul:=Ul.mo) (UH:=UH.mo) (Uo:=Uo.mo);have F69:Fn K mg "law" uU ["script"] _ _:=⟨yR (st:=uU) l69 c69 k69,(yR (st:=uU) l69 c69 k69).binds (ps:=["script"]) (by walk_at "b"),k69,Q9 X G a69⟩
 have UN:=zPZ l.prog w base 27 B KT C R ET F69 (YQ:=YQ.mo) (YT:=YT.mo) (Y6:=Y6.mo) (Ui:=Ui.mo) (Y3:=Y3.mo) (Uw:=Uw.mo) (Uh:=Uh.mo) (Y9:=Y9.mo);exact zOe UN law_true
end Lw
open PySem PySem.W PyProof.Rows
local macro_rules | `(tactic| walk_at "fk")=>`(tactic| (refine' Lw.fkm ?a ?l ?c ?k;(case a=>k_is);(case l=>k_is);(case c=>k_is);(case k=>k_is)))
set_option maxRecDepth 100000 in
set_option maxHeartbeats 0 in
theorem PySem.Challenge.cw_catchhall_k29_lines_and_shares_holds : PySem.Challenge.rw_catchhall_k29_lines_and_shares.Holds := by
 w_on;o_law;k_head;(case hw=>w_witness2)
 k_fill
 refine L3.zRo (l:=PySem.Challenge.rw_catchhall_k29_lines_and_shares) (k:=28) rfl rfl ⟨rfl,by decide,by decide⟩ (fun w h Y=>PySem.W.km_in_of Y) (fun w h Y=>PySem.W.km_tabs_of Y _ (.head _)) ?F
 case F=>
  intro w mg fa h KX G hmg
  refine' Lw.zPQ KX G hmg ?d0 ?d1 ?d2 ?d3 ?d4 ?d5 ?d6 ?d7 ?d8 ?d9 ?d10 ?a11 ?l11 ?c11 ?k11 ?tq ?tn ?d12 ?d13 ?d14 ?d15 ?d16 ?d17 ?d18 ?d19 ?d20 ?d21 ?d22 ?d23 ?d24 ?d25 ?d26 ?d27 ?d28 ?d29 ?d30 ?d31 ?d32 ?d33 ?d34 ?d35 ?d36 ?d37 ?d38 ?d39 ?d40 ?d41 ?d42 ?d43 ?d44 ?d45 ?d46 ?d47 ?d48 ?d49 ?d50 ?d51 ?d52 ?d53 ?d54 ?d55 ?d56 ?d57 ?d58 ?d59 ?d60 ?d61 ?d62 ?d63 ?d64 ?d65 ?d66 ?d67 ?d68 ?a69 ?l69 ?c69 ?k69 ?z_abs ?z_sorted ?z_range ?z_len ?z_sum ?z_zip ?z_tuple ?z_reversed ?z_isinstance ?z_bool ?z_int ?z_max ?z_list ?KT ?CC ?RR ?EE
  (case a11=>k_is)
  (case l11=>k_is)
  (case c11=>k_is)
  (case k11=>k_is)
  (case tq=>first | k_is | kernel_rfl | kn_code | decide +kernel)
  (case tn=>first | k_is | kernel_rfl | kn_code | decide +kernel)
  (case a69=>k_is)
  (case l69=>k_is)
  (case c69=>k_is)
  (case k69=>k_is)
  (case d0=>walk_at "fk")
  (case d1=>walk_at "fk")
  (case d2=>walk_at "fk")
  (case d3=>walk_at "fk")
  (case d4=>walk_at "fk")
  (case d5=>walk_at "fk")
  (case d6=>walk_at "fk")
  (case d7=>walk_at "fk")
  (case d8=>walk_at "fk")
  (case d9=>walk_at "fk")
  (case d10=>walk_at "fk")
  (case d12=>walk_at "fk")
  (case d13=>walk_at "fk")
  (case d14=>walk_at "fk")
  (case d15=>walk_at "fk")
  (case d16=>walk_at "fk")
  (case d17=>walk_at "fk")
  (case d18=>walk_at "fk")
  (case d19=>walk_at "fk")
  (case d20=>walk_at "fk")
  (case d21=>walk_at "fk")
  (case d22=>walk_at "fk")
  (case d23=>walk_at "fk")
  (case d24=>walk_at "fk")
  (case d25=>walk_at "fk")
  (case d26=>walk_at "fk")
  (case d27=>walk_at "fk")
  (case d28=>walk_at "fk")
  (case d29=>walk_at "fk")
  (case d30=>walk_at "fk")
  (case d31=>walk_at "fk")
  (case d32=>walk_at "fk")
  (case d33=>walk_at "fk")
  (case d34=>walk_at "fk")
  (case d35=>walk_at "fk")
  (case d36=>walk_at "fk")
  (case d37=>walk_at "fk")
  (case d38=>walk_at "fk")
  (case d39=>walk_at "fk")
  (case d40=>walk_at "fk")
  (case d41=>walk_at "fk")
  (case d42=>walk_at "fk")
  (case d43=>walk_at "fk")
  (case d44=>walk_at "fk")
  (case d45=>walk_at "fk")
  (case d46=>walk_at "fk")
  (case d47=>walk_at "fk")
  (case d48=>walk_at "fk")
  (case d49=>walk_at "fk")
  (case d50=>walk_at "fk")
  (case d51=>walk_at "fk")
  (case d52=>walk_at "fk")
  (case d53=>walk_at "fk")
  (case d54=>walk_at "fk")
  (case d55=>walk_at "fk")
  (case d56=>walk_at "fk")
  (case d57=>walk_at "fk")
  (case d58=>walk_at "fk")
  (case d59=>walk_at "fk")
  (case d60=>walk_at "fk")
  (case d61=>walk_at "fk")
  (case d62=>walk_at "fk")
  (case d63=>walk_at "fk")
  (case d64=>walk_at "fk")
  (case d65=>walk_at "fk")
  (case d66=>walk_at "fk")
  (case d67=>walk_at "fk")
  (case d68=>walk_at "fk")
  (case z_abs=>k_is)
  (case z_sorted=>k_is)
  (case z_range=>k_is)
  (case z_len=>k_is)
  (case z_sum=>k_is)
  (case z_zip=>k_is)
  (case z_tuple=>k_is)
  (case z_reversed=>k_is)
  (case z_isinstance=>k_is)
  (case z_bool=>k_is)
  (case z_int=>k_is)
  (case z_max=>k_is)
  (case z_list=>k_is)
  (case KT=>refine' ⟨⟨?t0_0,?t0_1,?t0_2,?t0_3,?t0_4,?t0_5⟩,⟨?t1_0,?t1_1,?t1_2,?t1_3,?t1_4,?t1_5⟩,⟨?t2_0,?t2_1,?t2_2,?t2_3,?t2_4,?t2_5⟩,⟨?t3_0,?t3_1,?t3_2,?t3_3,?t3_4,?t3_5⟩⟩<;>(first | kit_is | (show _=some true;kit_is) | (show _=some false;kit_is) | rfl | decide +kernel))
  (case CC=>
   intro h mg X G
   refine' Lw.zRT X G ?n_ACROSS ?n_BOAT ?n_HALF ?pHALF0_l ?n_NOUGHT ?pNOUGHT1_l ?n_UP ?n_WEIGHTED ?pWEIGHTED2_l ?n_CONTRARY ?aW<;>try first | k_is | kit_is | k_exc | rfl | decide +kernel | kernel_rfl)
  (case RR=>
   intro h mg X G
   refine' Lw.zRG X G ?n_BadClaim ?x_BadClaim ?n_BadLine ?x_BadLine ?n_BadWay ?x_BadWay ?n_BadWeights ?x_BadWeights ?n_NoFraction ?x_NoFraction ?n_Outside ?x_Outside ?n_Unlike ?x_Unlike<;>try first | k_is | kit_is | k_exc | rfl | decide +kernel | kernel_rfl)
  (case EE=>
   intro h mg X G
   refine' Lw.zRP X G )
